/- What Feed answers (no program in sight). -/
import Derived.Test.YtkeeiihaijhdoaaDae
import Derived.Test.YtkeeiihaijhdoaaDac
import Derived.Maps.Own
import Derived.Maps.OwnSet
import Derived.Maps.Views
import Derived.Maps.Keyed
import Derived.Maps.RangeWalk
namespace Go.Proofs.Ytkeeiihaijhdoaa.Sm
open Go.Proofs.Ytkeeiihaijhdoaa.Pl
set_option linter.unusedVariables false
set_option linter.unusedSimpArgs false
def tblT (l : List Mk) : Tbl := l.foldl (fun T k => putT T k.1 k.2) fun _ => none
theorem tblT_take {l : List Mk} {i : Nat} (h : i < l.length) : tblT (l.take (i + 1)) = putT (tblT (l.take i)) (el l i).1 (el l i).2 := by
 unfold tblT
 rw [take_el h, List.foldl_append]; rfl
theorem tblF_or {q : Int} {y : Ky} : ∀ {l : List Mk} {T : Tbl}, l.foldl (fun T k => putT T k.1 k.2) T q = some y → T q = some y ∨ (q, y) ∈ l
  | [], _, h => .inl h
  | k :: l, T, h => by
    rcases tblF_or (l := l) (T := putT T k.1 k.2) h with h | h
    · rcases putT_or h with h | ⟨h1, h2⟩
      · exact .inl h
      · refine .inr ?_
        rw [h1, h2]
        exact List.mem_cons_self
    · exact .inr (List.mem_cons_of_mem _ h)
theorem tblT_mem {q : Int} {y : Ky} {l : List Mk} (h : tblT l q = some y) : (q, y) ∈ l := by
 rcases tblF_or h with h | h
 ·cases h
 ·exact h
def chkA (m : Mc) (r : Ru) : Int := if faultM m ≠ 0 then faultM m else if runB m.2.length r = true then 0 else 13
def FedAns (m : Mc) (r : Ru) (x : List Int) (s : Ru) (ec : Int) : Prop :=
 (chkA m r ≠ 0 ∧ s = (0, []) ∧ ec = chkA m r) ∨ (chkA m r = 0 ∧ 12 < r.1 + x.length ∧ s = (0, []) ∧ ec = 5) ∨
 (chkA m r = 0 ∧ ¬ 12 < r.1 + x.length ∧ labB x = false ∧ s = (0, []) ∧ ec = 2) ∨
 (chkA m r = 0 ∧ ¬ 12 < r.1 + x.length ∧ labB x = true ∧ ∃ res, FedT m (tblT r.2) x res ∧ s = (match res with | none => (0, []) | some K => (r.1 + x.length, ordL m.2.length K)) ∧ ec = (match res with | none => 4 | some _ => 0))
theorem runB_el' {n : Int} {r : Ru} (h : runB n r = true) : ∀ j, j < r.2.length → 0 ≤ (el r.2 j).1 ∧ (el r.2 j).1 < n ∧ 0 ≤ (el r.2 j).2.1 ∧ (el r.2 j).2.1 ≤ 1000000000 ∧ (el r.2 j).2.2.length ≤ 800 := by
 intro j hj
 simp only [runB, Bool.and_eq_true] at h
 have h1 := risB_el h.1.2 j hj
 have h2 := List.all_eq_true.1 h.2 _ (el_mem hj)
 simp only [mkB, inB, Bool.and_eq_true, decide_eq_true_eq] at h2
 exact ⟨h1.1, h1.2, h2.1.1.1, h2.1.1.2, h2.1.2⟩
theorem tblT_facts {m : Mc} {r : Ru} (h : runB m.2.length r = true) : DomT m.2.length (tblT r.2) ∧ BndT 1000000000 800 (tblT r.2) := by
 constructor
 ·intro q y hy
  obtain ⟨j, hj, he⟩ := List.getElem_of_mem (tblT_mem hy)
  have := runB_el' h j hj
  rw [el_get hj, he] at this
  exact ⟨this.1, this.2.1⟩
 ·intro q y hy
  obtain ⟨j, hj, he⟩ := List.getElem_of_mem (tblT_mem hy)
  have := runB_el' h j hj
  rw [el_get hj, he] at this
  exact this.2.2
theorem runB_fed {n : Int} {r : Ru} (h : runB n r = true) : 0 ≤ r.1 ∧ r.1 ≤ 12 := by
 simp only [runB, inB, Bool.and_eq_true, decide_eq_true_eq] at h
 exact h.1.1
theorem risB_nodup {n : Int} : ∀ {l : List Mk} {b : Int}, risB n b l = true → (l.map fun k => k.1).Nodup ∧ ∀ k ∈ l, b ≤ k.1
  | [], b, _ => ⟨by simp, by simp⟩
  | k :: l, b, h => by
    simp only [risB, Bool.and_eq_true, decide_eq_true_eq] at h
    obtain ⟨h1, h2⟩ := risB_nodup h.2
    refine ⟨?_, fun j hj => ?_⟩
    · rw [List.map_cons, List.nodup_cons]
      refine ⟨fun hk => ?_, h1⟩
      rw [List.mem_map] at hk
      obtain ⟨j, hj, e⟩ := hk
      have := h2 j hj
      omega
    · rcases List.mem_cons.1 hj with rfl | hj
      · exact h.1.1
      · have := h2 j hj
        omega
theorem risB_few {n : Nat} {l : List Mk} (h : risB n 0 l = true) : l.length ≤ n := by
 have := few_below (risB_nodup h).1 (n := n) (fun t ht => by
  rw [List.mem_map] at ht
  obtain ⟨k, hk, rfl⟩ := ht
  obtain ⟨j, hj, he⟩ := List.getElem_of_mem hk
  have := risB_el h j hj
  rw [el_get hj, he] at this
  exact this)
 simpa using this
end Go.Proofs.Ytkeeiihaijhdoaa.Sm
namespace Go.Proofs.Ytkeeiihaijhdoaa.Sm
open Go.ChangeShapes Go.WideShapes Go.ChangeAt Go.RowKit
open Go.Proofs.Ytkeeiihaijhdoaa.Pl Go.Proofs.Ytkeeiihaijhdoaa.Wt
set_option linter.unusedVariables false
set_option linter.unusedSimpArgs false
theorem mkIs_of {w : World} {q x : Int} {vo : Value} {o : List Int} (h : Nums w vo o) : MkIs w (.agg #[.int .i64 q, .int .i64 x, vo]) (q, x, o) := ⟨vo, rfl, h⟩
set_option maxRecDepth 100000 in
set_option maxHeartbeats 1600000 in
theorem check_any (v vr : Value) (m : Mc) (r : Ru) (w : World) (h : Mach w v m) (hok : okM m) (hr : RunV w vr r) (hou : okU r) (x : Int) (hx : chkA m r = x) :
  Calls Try.prog 35 #[v, vr] w fun e w' => e = .returned (.int .i64 x) ∧ Below w.heap.size w w' := by
 have HM : Hid (Mach w v m) := h
 have HK := hidP hok
 have HL : Hid (r.2.length * 40 ≤ 140737488351232) := hou.1
 obtain ⟨z, l⟩ := m
 obtain ⟨vs, rfl, hS⟩ := h
 obtain ⟨a, cap, rfl⟩ := hS.sl
 obtain ⟨f, ml⟩ := r
 obtain ⟨vm, rfl, hMk⟩ := hr
 have HR : Hid (Marks w vm ml) := hMk
 have HRv : Hid (RunV w (.agg #[.int .i64 f, vm]) (f, ml)) := ⟨_, rfl, hMk⟩
 obtain ⟨am, cm, rfl, hc⟩ := hMk.get
 have HC : Hid (∀ j, j < ml.length → ∃ b off vo, am = some ⟨b, off, none⟩ ∧ b < w.heap.size ∧ w.cell? ⟨b, off + j * 3, none⟩ = some (.int .i64 (el ml j).1) ∧ w.cell? ⟨b, off + j * 3 + 1, none⟩ = some (.int .i64 (el ml j).2.1) ∧ w.cell? ⟨b, off + j * 3 + 2, none⟩ = some vo ∧ Nums w vo (el ml j).2.2) := hc
 clear hS hok hou hMk hc
 simp only at HM HK HL ⊢
 have hnot : ∀ (x : Bool) (w : World), (Op.unary .not (.bool x)).run Try.prog w = .ok (.bool (!x)) w := fun _ _ => rfl
 have HU : Hid (Below w.heap.size w ((w.alloc (.cells #[.int .i64 z, .slice a l.length cap] 24)).alloc (.cells #[.int .i64 f, .slice am ml.length cm] 28))) := by show Below _ _ _; go_grown
 have hx' : chkA (z, l) (f, ml) = x := hx
 unfold chkA at hx'
 simp only at hx'
 by_cases hf : faultM (z, l) = 0
 ·have h60 := (right_size hf).1
  rw [if_neg (by omega)] at hx'
  have hrun : runB l.length (f, ml) = (inB f 0 12 && risB l.length 0 ml && ml.all mkB) := rfl
  have HX := hidP hx'
  have HF := hidP hf
  have HRU := hidP hrun
  clear hx hx' hf hrun
  have ways : f < 0 ∨ (¬ f < 0 ∧ (12 : Int) < f) ∨ (¬ f < 0 ∧ ¬ (12 : Int) < f) := by omega
  rcases ways with h1 | ⟨h1, h2⟩ | ⟨h1, h2⟩
  ·have hb : x = 13 := by rw [← HX.out, HRU.out, show inB f 0 12 = false by simp [inB]; omega]; simp
   subst hb
   go_enter Try.func35, Try.ntmps35
   go_wp2_with (first
    | (go_at_call 27; (with_reducible refine (coreCheck_any _ (z, l) _ (HM.out.later HU.out (Nat.le_refl _)) HK.out 0 HF.out).mono ?_); rintro e w1 ⟨rfl, hb⟩; obtain ⟨s1, b1, b2, hb1⟩ := boxedTwo hb (by simp); have HB1 : Hid (Below w.heap.size w w1) := hb1; have c0 := b1.cell 0 (v := .int .i64 z) rfl; have c1 := b1.cell 1 (v := .slice a l.length cap) rfl; have c2 := b2.cell 0 (v := .int .i64 f) rfl; have c3 := b2.cell 1 (v := .slice am ml.length cm) rfl; clear hb hb1 b1 b2))
   go_ret
   exact ⟨rfl, HB1.out⟩
  ·have hb : x = 13 := by rw [← HX.out, HRU.out, show inB f 0 12 = false by simp [inB]; omega]; simp
   subst hb
   go_enter Try.func35, Try.ntmps35
   go_wp2_with (first
    | (go_at_call 27; (with_reducible refine (coreCheck_any _ (z, l) _ (HM.out.later HU.out (Nat.le_refl _)) HK.out 0 HF.out).mono ?_); rintro e w1 ⟨rfl, hb⟩; obtain ⟨s1, b1, b2, hb1⟩ := boxedTwo hb (by simp); have HB1 : Hid (Below w.heap.size w w1) := hb1; have c0 := b1.cell 0 (v := .int .i64 z) rfl; have c1 := b1.cell 1 (v := .slice a l.length cap) rfl; have c2 := b2.cell 0 (v := .int .i64 f) rfl; have c3 := b2.cell 1 (v := .slice am ml.length cm) rfl; clear hb hb1 b1 b2))
   go_ret
   exact ⟨rfl, HB1.out⟩
  ·have HG : Hid ((if (risB l.length 0 ml && ml.all mkB) = true then (0 : Int) else 13) = x) := by
    show _ = _
    rw [← HX.out, HRU.out, show inB f 0 12 = true by simp [inB]; omega, Bool.true_and]
   clear HX HRU
   by_cases h3 : risB l.length 0 ml = true
   ·have HG2 : Hid ((if ml.all mkB = true then (0 : Int) else 13) = x) := by show _ = _; rw [← HG.out, h3, Bool.true_and]
    have HR3 := hidP h3
    clear HG h3
    have HS : Hid (∀ k, k < ml.length → (ml.drop k).all mkB = (mkB (el ml k) && (ml.drop (k + 1)).all mkB)) := fun k hk => all_drop hk
    have HE : Hid ((ml.drop ml.length).all mkB = true) := by rw [List.drop_length]; rfl
    have HG3 : Hid ((if (ml.drop 0).all mkB = true then (0 : Int) else 13) = x) := HG2.out
    clear HG2
    generalize hL : ml.length = L at *
    have HLL := hidP hL
    clear hL
    have hL40 : L * 40 ≤ 140737488351232 := HL.out
    go_enter Try.func35, Try.ntmps35
    go_wp2_with (first
     | (go_at_call 27; (with_reducible refine (coreCheck_any _ (z, l) _ (HM.out.later HU.out (Nat.le_refl _)) HK.out 0 HF.out).mono ?_); rintro e w1 ⟨rfl, hb⟩; obtain ⟨s1, b1, b2, hb1⟩ := boxedTwo hb (by simp); have HB1 : Hid (Below w.heap.size w w1) := hb1; have c0 := b1.cell 0 (v := .int .i64 z) rfl; have c1 := b1.cell 1 (v := .slice a l.length cap) rfl; have c2 := b2.cell 0 (v := .int .i64 f) rfl; have c3 := b2.cell 1 (v := .slice am L cm) rfl; have f0 := b1.fz 0; have f1 := b1.fz 1; clear hb hb1 b1 b2)
     | (go_at_call 58; (with_reducible refine (rises_any z _ _ l.length ml _ a cap rfl (HR.out.later HB1.out (Nat.le_refl _)) (by rw [HLL.out]; exact HL.out) (by omega)).mono ?_); rintro e w2 ⟨rfl, hb⟩; rw [HR3.out]; have d0 := low c0 hb; have d1 := low c1 hb; have d2 := low c2 hb; have d3 := low c3 hb; have HB2 : Hid (Below w.heap.size w w2) := HB1.out.trans (hb.mono HB1.out.size); clear hb))
    go_loopw [31] (fun i wr => ∃ k : Nat, k ≤ L ∧ i = .int .i64 k ∧ Hid ((if (ml.drop k).all mkB = true then (0 : Int) else 13) = x) ∧ Hid (Below w.heap.size w wr)) (fun i _ => L - (intOf i).toNat)
    case atStart => exact ⟨0, Nat.zero_le _, rfl, HG3, HB2⟩
    case round =>
     clear HG3 d0 d1 d2 d3 c0 c1 c2 c3
     obtain ⟨k, hk, rfl, hg, hbw⟩ := hrel
     by_cases hlt : k < L
     ·obtain ⟨b, off, vo, rfl, hbl, g0, g1, g2, hno⟩ := HC.out k hlt
      have hk0 : (0 : Int) ≤ (k : Int) := by omega
      have hk1 : (k : Int) < (L : Int) := by omega
      obtain ⟨ao, co, rfl⟩ := Row.sl hno
      have g0 := (hbw.out.cell (p := ⟨b, off + k * 3, none⟩) hbl).trans g0
      have g1 := (hbw.out.cell (p := ⟨b, off + k * 3 + 1, none⟩) hbl).trans g1
      have g2 := (hbw.out.cell (p := ⟨b, off + k * 3 + 2, none⟩) hbl).trans g2
      have HNo : Hid (Nums wr (.slice ao (el ml k).2.2.length co) (el ml k).2.2) := hno.later hbw.out (Nat.le_refl _)
      have HN : Hid ((if (mkB (el ml k) && (ml.drop (k + 1)).all mkB) = true then (0 : Int) else 13) = x) := by show _ = x; rw [← HS.out k hlt]; exact hg.out
      have HU2 : Hid (Below wr.heap.size wr (wr.alloc (.cells #[.int .i64 (el ml k).1, .int .i64 (el ml k).2.1, .slice ao (el ml k).2.2.length co] 67))) := by show Below _ _ _; go_grown
      have z2 : b < wr.heap.size := Nat.lt_of_lt_of_le hbl hbw.out.size
      clear hg hno hbl
      generalize el ml k = p at *
      obtain ⟨p0, p1, p2⟩ := p
      simp only at g0 g1 g2 HNo HN HU2
      by_cases hm : mkB (p0, p1, p2) = true
      ·have HN' : Hid ((if (ml.drop (k + 1)).all mkB = true then (0 : Int) else 13) = x) := by show _ = x; rw [← HN.out, hm, Bool.true_and]
       have HMB := hidP hm
       clear HN hm
       go_wp2_with (first
        | (go_at_call 59; (with_reducible refine (mayBe_any _ (p0, p1, p2) _ (mkIs_of (HNo.out.later HU2.out (Nat.le_refl _)))).mono ?_); rintro e w3 ⟨rfl, hb⟩; rw [HMB.out]; have HB3 : Hid (Below wr.heap.size wr w3) := HU2.out.trans (hb.mono HU2.out.size); clear hb))
       go_roundw
       case rel => exact ⟨k + 1, by omega, by go_num, HN', hbw.out.trans (HB3.out.mono hbw.out.size)⟩
       case measure => simp [intOf]; omega
      ·have hx13 : x = 13 := by rw [← HN.out]; simp [hm]
       have HMB : Hid (mkB (p0, p1, p2) = false) := by show _ = _; simpa using hm
       subst hx13
       clear HN hm
       go_wp2_with (first
        | (go_at_call 59; (with_reducible refine (mayBe_any _ (p0, p1, p2) _ (mkIs_of (HNo.out.later HU2.out (Nat.le_refl _)))).mono ?_); rintro e w3 ⟨rfl, hb⟩; rw [HMB.out]; have HB3 : Hid (Below wr.heap.size wr w3) := HU2.out.trans (hb.mono HU2.out.size); clear hb))
       go_ret
       exact ⟨rfl, hbw.out.trans (HB3.out.mono hbw.out.size)⟩
     ·have hnl : ¬ (k : Int) < (L : Int) := by omega
      have hkn : k = L := by omega
      have hx0 : x = 0 := by rw [← hg.out, hkn, HE.out]; rfl
      subst hx0
      clear hg
      go_wp2
      go_ret
      exact ⟨rfl, hbw.out⟩
   ·have hb : x = 13 := by rw [← HG.out]; simp [h3]
    have HR3 : Hid (risB l.length 0 ml = false) := by show _ = _; simpa using h3
    subst hb
    clear HG h3
    go_enter Try.func35, Try.ntmps35
    go_wp2_with (first
     | (go_at_call 27; (with_reducible refine (coreCheck_any _ (z, l) _ (HM.out.later HU.out (Nat.le_refl _)) HK.out 0 HF.out).mono ?_); rintro e w1 ⟨rfl, hb⟩; obtain ⟨s1, b1, b2, hb1⟩ := boxedTwo hb (by simp); have HB1 : Hid (Below w.heap.size w w1) := hb1; have c0 := b1.cell 0 (v := .int .i64 z) rfl; have c1 := b1.cell 1 (v := .slice a l.length cap) rfl; have c2 := b2.cell 0 (v := .int .i64 f) rfl; have c3 := b2.cell 1 (v := .slice am ml.length cm) rfl; have f0 := b1.fz 0; have f1 := b1.fz 1; clear hb hb1 b1 b2)
     | (go_at_call 58; (with_reducible refine (rises_any z _ _ l.length ml _ a cap rfl (HR.out.later HB1.out (Nat.le_refl _)) HL.out (by omega)).mono ?_); rintro e w2 ⟨rfl, hb⟩; rw [HR3.out]; have HB2 : Hid (Below w.heap.size w w2) := HB1.out.trans (hb.mono HB1.out.size); clear hb))
    go_ret
    exact ⟨rfl, HB2.out⟩
 ·rw [if_pos hf] at hx'
  subst hx'
  have HF : Hid (faultM (z, l) = faultM (z, l)) := rfl
  clear hx
  generalize hq : faultM (z, l) = q at *
  have HQ := hidP hq
  clear hq HF
  go_enter Try.func35, Try.ntmps35
  go_wp2_with (first
   | (go_at_call 27; (with_reducible refine (coreCheck_any _ (z, l) _ (HM.out.later HU.out (Nat.le_refl _)) HK.out q HQ.out).mono ?_); rintro e w1 ⟨rfl, hb⟩; obtain ⟨s1, b1, b2, hb1⟩ := boxedTwo hb (by simp); have HB1 : Hid (Below w.heap.size w w1) := hb1; clear hb hb1 b1 b2))
  go_ret
  exact ⟨rfl, HB1.out⟩
end Go.Proofs.Ytkeeiihaijhdoaa.Sm
namespace Go.Proofs.Ytkeeiihaijhdoaa.Sm
open Go.ChangeShapes Go.WideShapes Go.ChangeAt Go.RowKit Go.Maps
open Go.Proofs.Ytkeeiihaijhdoaa.Pl Go.Proofs.Ytkeeiihaijhdoaa.Wt
set_option linter.unusedVariables false
set_option linter.unusedSimpArgs false
def Keeps (w w' : World) : Prop := ∀ a v, w.cell? a = some v → w'.cell? a = some v
theorem Keeps.below {w w' : World} (hb : Below w.heap.size w w') : Keeps w w' := fun a v h => (hb.cell (World.block_lt_of_cell? _ _ h)).trans h
theorem Keeps.grown {w w' : World} {m : Nat} {es : Array MapEntry} {c : Nat} (hg : w.grownBy w' (some m)) (hm : w.heap[m]? = some (.map es c)) : Keeps w w' := fun a v h => by
 have hne : a.block ≠ m := fun e => by
  simp [World.cell?, e, hm] at h
 rw [World.cell?_of_block (hg.block a.block (World.block_lt_of_cell? _ _ h) (by simpa using hne))]
 exact h
theorem Row.keeps {α : Type} [Inhabited α] {k : Nat} {enc : α → List Value} {w w' : World} {v : Value} {xs : List α} (h : Row k enc w v xs) (hk : Keeps w w') : Row k enc w' v xs := by
 rcases h with h | ⟨x, cap, hv, hc⟩
 ·exact .inl h
 ·exact .inr ⟨x, cap, hv, fun j hj i u hu => hk _ _ (hc j hj i u hu)⟩
theorem Nums.keeps {w w' : World} {v : Value} {l : List Int} (h : Nums w v l) (hk : Keeps w w') : Nums w' v l := Row.keeps h hk
theorem MkIs.keeps {w w' : World} {v : Value} {k : Mk} (h : MkIs w v k) (hk : Keeps w w') : MkIs w' v k := by
 obtain ⟨vo, h1, h2⟩ := h
 exact ⟨vo, h1, Nums.keeps h2 hk⟩
theorem Mach.keeps {w w' : World} {v : Value} {m : Mc} (h : Mach w v m) (hk : Keeps w w') : Mach w' v m := by
 obtain ⟨vs, h1, us, g1, g2, g3⟩ := h
 exact ⟨vs, h1, us, Row.keeps g1 hk, g2, fun j hj => ⟨(g3 j hj).1, Row.keeps (g3 j hj).2 hk⟩⟩
abbrev Mv := Int × Int × Option Addr × Nat × Nat
def mkMv (x : Mv) : Value := .agg #[.int .i64 x.1, .int .i64 x.2.1, .slice x.2.2.1 x.2.2.2.1 x.2.2.2.2]
def rdM (v : Value) : Option (DataW Value × List MemPlace) := match v with
  | .agg c => (match c.toList with
    | [.int .i64 _, .int .i64 _, .slice _ _ _] => some (.held v, [])
    | _ => none)
  | _ => none
theorem rdM_mk (x : Mv) : rdM (mkMv x) = some (.held (mkMv x), []) := rfl
theorem rdM_inv {v : Value} {y : DataW Value × List MemPlace} (h : rdM v = some y) : ∃ x, v = mkMv x ∧ y = (.held v, []) := by
 unfold rdM at h
 split at h
 ·rename_i c
  split at h
  ·rename_i q x a n k hc
   have hcc : c = #[.int .i64 q, .int .i64 x, .slice a n k] := by
    apply Array.ext'
    simpa using hc
   subst hcc
   rw [Option.some.injEq] at h
   exact ⟨(q, x, a, n, k), rfl, h.symm⟩
  ·cases h
 ·cases h
theorem MkIs.mv {w : World} {v : Value} {k : Mk} (h : MkIs w v k) : ∃ (a : Option Addr) (c : Nat), v = mkMv (k.1, k.2.1, a, k.2.2.length, c) ∧ Nums w (.slice a k.2.2.length c) k.2.2 := by
 obtain ⟨vo, rfl, h2⟩ := h
 obtain ⟨a, c, rfl⟩ := Row.sl h2
 exact ⟨a, c, rfl, h2⟩
abbrev wfI (q : Int) : Prop := (Lit.int .i64 q).wf = true
theorem wfI_of {q : Int} (h1 : -1000000000000000 ≤ q) (h2 : q ≤ 1000000000000000) : wfI q := by
 simp [wfI, Lit.wf, IntKind.min, IntKind.max, IntKind.signed, IntKind.bits]
 omega
theorem lawI : Keyed Try.prog 3 := int_keyed Try.underlying3
theorem keyI {q : Int} (h : wfI q) : keyOf Try.prog 3 (.int .i64 q) = some (.int .i64 q) := keyOf_int_mk Try.underlying3 h
theorem zeroMk (w : World) : (zeroValue 67).run Try.prog w = .ok (mkMv (0, 0, none, 0, 0)) w := by kernel_rfl
def MpK (w : World) (m : Nat) (T : Tbl) (ks : List Int) : Prop :=
  ∃ D : DataW Value, w.ownsMap Try.prog 3 rdM m ks.length D ∧ Maps.size D = ks.length ∧ ks.Nodup ∧ (∀ q, T q ≠ none ↔ q ∈ ks) ∧ (∀ q, q ∈ ks → wfI q) ∧
    ∀ q, wfI q → (∀ k, T q = some k → Maps.has D (.int .i64 q) = true ∧ ∃ x : Mv, (∀ zd, D.atKey (.int .i64 q) zd = .held (mkMv x)) ∧ MkIs w (mkMv x) (q, k)) ∧ (T q = none → Maps.has D (.int .i64 q) = false)
theorem MpK.isMap {w : World} {m : Nat} {T : Tbl} {ks : List Int} (h : MpK w m T ks) : ∃ es c, w.heap[m]? = some (.map es c) := by
 obtain ⟨D, ⟨es, c, hb, _⟩, _⟩ := h
 exact ⟨es, c, hb⟩
theorem MpK.lt {w : World} {m : Nat} {T : Tbl} {ks : List Int} (h : MpK w m T ks) : m < w.heap.size := by obtain ⟨D, h, _⟩ := h; exact h.lt
theorem MpK.keep {w w' : World} {m : Nat} {T : Tbl} {ks : List Int} (h : MpK w m T ks) (e : w'.heap[m]? = w.heap[m]?) (hk : Keeps w w') : MpK w' m T ks := by
 obtain ⟨D, ⟨es, c, hb, h0⟩, h1, h2, h3, h4, h5⟩ := h
 refine ⟨D, ⟨es, c, e.trans hb, h0⟩, h1, h2, h3, h4, fun q hq => ⟨fun k hT => ?_, (h5 q hq).2⟩⟩
 obtain ⟨g1, x, g2, g3⟩ := (h5 q hq).1 k hT
 exact ⟨g1, x, g2, g3.keeps hk⟩
theorem MpK.below {w w' : World} {m : Nat} {T : Tbl} {ks : List Int} (h : MpK w m T ks) (hb : Below w.heap.size w w') : MpK w' m T ks := h.keep (hb.block m h.lt) (.below hb)
theorem MpK.grown {w w' : World} {m m2 : Nat} {T T2 : Tbl} {ks ks2 : List Int} (h : MpK w m T ks) (h2 : MpK w m2 T2 ks2) (hg : w.grownBy w' (some m2)) (hne : m ≠ m2) : MpK w' m T ks := by
 obtain ⟨es, c, hb⟩ := h2.isMap
 exact h.keep (hg.block m h.lt (by simpa using hne)) (.grown hg hb)
theorem MpK.keeps {w w' : World} {m : Nat} {T : Tbl} {ks : List Int} (h : MpK w m T ks) (hg : w.grownBy w' (some m)) : Keeps w w' := by
 obtain ⟨es, c, hb⟩ := h.isMap
 exact .grown hg hb
theorem MpK.made (w : World) : MpK (w.alloc (.map #[] 0)) w.heap.size (fun _ => none) [] :=
 ⟨_, World.ownsMap_made w _ _ _, rfl, List.nodup_nil, fun q => by simp, fun q h => (by cases h), fun q hq => ⟨fun k h => (by cases h), fun _ => rfl⟩⟩
theorem MpK.ne {w : World} {m b : Nat} {T : Tbl} {ks : List Int} (h : MpK w m T ks) {cs : Array Value} {t : TypeId} (hb : Blk w b cs t) : b ≠ m := by
 obtain ⟨es, c, hm⟩ := h.isMap
 intro e
 subst e
 unfold Blk at hb
 rw [hm] at hb
 cases hb
theorem MpK.tight {w : World} {m n : Nat} {D : DataW Value} (h : w.ownsMap Try.prog 3 rdM m n D) : w.ownsMap Try.prog 3 rdM m (Maps.size D) D := by
 obtain ⟨es, c, hb, F, hn, rfl⟩ := h
 exact ⟨es, c, hb, F, by simp [Maps.size, length_sorted], rfl⟩
def mapLen (w : World) (m : Nat) : Nat := match w.heap[m]? with
 | some (.map es _) => es.size
 | _ => 0
theorem MpK.len {w : World} {m : Nat} {T : Tbl} {ks : List Int} (h : MpK w m T ks) : mapLen w m = ks.length := by
 obtain ⟨D, ⟨es, c, hb, F, _, rfl⟩, h2, _⟩ := h
 rw [← h2]
 unfold mapLen
 rw [hb]
 simp [Maps.size, length_sorted]
theorem MpK.look {w : World} {m : Nat} {T : Tbl} {ks : List Int} (h : MpK w m T ks) {q : Int} (hq : wfI q) :
  (∀ k, T q = some k → ∃ x : Mv, (Instr.lookup 61 (.map (some m)) (.int .i64 q) true).run Try.prog w = .ok (.tuple #[mkMv x, .bool true]) w ∧ MkIs w (mkMv x) (q, k)) ∧
  (T q = none → (Instr.lookup 61 (.map (some m)) (.int .i64 q) true).run Try.prog w = .ok (.tuple #[mkMv (0, 0, none, 0, 0), .bool false]) w) := by
 obtain ⟨D, h1, h2, h3, h4, h5, h6⟩ := h
 obtain ⟨v, ps, hr, hv⟩ := World.ownsMap.look_ok h1 lawI Try.underlying61 (zeroMk w) (rdM_mk _) (keyI hq)
 constructor
 ·intro k hT
  obtain ⟨g1, x, g2, g3⟩ := (h6 q hq).1 k hT
  rw [g2] at hv
  obtain ⟨x', rfl, e⟩ := rdM_inv hv
  simp only [Prod.mk.injEq, DataW.held.injEq] at e
  rw [g1, ← e.1] at hr
  exact ⟨x, hr, g3⟩
 ·intro hT
  have g1 := (h6 q hq).2 hT
  rw [g1] at hr
  have hz : D.atKey (.int .i64 q) (.held (mkMv (0, 0, none, 0, 0))) = .held (mkMv (0, 0, none, 0, 0)) := atKey_of_not_has g1 _
  rw [hz] at hv
  obtain ⟨x', rfl, e⟩ := rdM_inv hv
  simp only [Prod.mk.injEq, DataW.held.injEq] at e
  rw [← e.1] at hr
  exact hr
theorem ltr_ne {p q : Int} (h : p ≠ q) : (Lit.int .i64 p) ≠ (Lit.int .i64 q) := fun e => h (by injection e)
theorem MpK.put {w : World} {m : Nat} {T : Tbl} {ks : List Int} (h : MpK w m T ks) {q : Int} (hq : wfI q) {k : Ky} {v : Value} (hv : MkIs w v (q, k)) (hl : ks.length < 1000000) :
  ∃ w', (Instr.mapUpdate 61 (.map (some m)) (.int .i64 q) v).run Try.prog w = .ok () w' ∧ MpK w' m (setT T q k) (if q ∈ ks then ks else ks ++ [q]) ∧ w.grownBy w' (some m) := by
 have hmap := h
 obtain ⟨D, h1, h2, h3, h4, h5, h6⟩ := h
 obtain ⟨a, c, rfl, hn⟩ := hv.mv
 obtain ⟨w', hu, ho, hg⟩ := World.ownsMap.update (R := rdM) h1 lawI Try.underlying61 (by unfold maxLen; omega) (keyI hq) (rdM_mk _)
 have hk : Keeps w w' := hmap.keeps hg
 have hsz : Maps.size (D.put (.int .i64 q) (.held (mkMv (q, k.1, a, k.2.length, c)))) = (if q ∈ ks then ks else ks ++ [q]).length := by
  rw [size_put (h1.tidy lawI), h2]
  by_cases e : q ∈ ks
  ·rw [if_pos e]
   obtain ⟨k', hk'⟩ := Option.ne_none_iff_exists'.1 ((h4 q).2 e)
   rw [if_pos ((h6 q hq).1 k' hk').1]
  ·rw [if_neg e]
   have hT : T q = none := by
    by_cases hn : T q = none
    ·exact hn
    ·exact absurd ((h4 q).1 hn) e
   rw [(h6 q hq).2 hT]
   simp
 refine ⟨w', hu, ⟨_, by rw [← hsz]; exact MpK.tight ho, hsz, ?_, ?_, ?_, ?_⟩, hg⟩
 ·by_cases e : q ∈ ks
  ·rw [if_pos e]; exact h3
  ·rw [if_neg e, List.nodup_append]
   refine ⟨h3, by simp, ?_⟩
   intro x hx y hy
   rw [List.mem_singleton] at hy
   subst hy
   rintro rfl
   exact e hx
 ·intro p
  unfold setT
  by_cases e : p = q
  ·subst e
   rw [if_pos rfl]
   by_cases e2 : p ∈ ks
   ·simp [e2]
   ·simp [e2]
  ·rw [if_neg e, h4]
   by_cases e2 : q ∈ ks
   ·simp [e2]
   ·simp [e2, e]
 ·intro p hp
  by_cases e2 : q ∈ ks
  ·rw [if_pos e2] at hp; exact h5 p hp
  ·rw [if_neg e2, List.mem_append, List.mem_singleton] at hp
   rcases hp with hp | rfl
   ·exact h5 p hp
   ·exact hq
 ·intro p hp
  unfold setT
  by_cases e : p = q
  ·subst e
   rw [if_pos rfl]
   refine ⟨fun k' hk' => ?_, fun hk' => (by cases hk')⟩
   rw [Option.some.injEq] at hk'
   subst hk'
   exact ⟨has_put_same h1.isMap (lawI.key (keyI hp)) _, _, fun zd => atKey_put_same h1.isMap (lawI.key (keyI hp)) _ zd, hv.keeps hk⟩
  ·rw [if_neg e]
   refine ⟨fun k' hk' => ?_, fun hk' => (has_put_other (ltr_ne e) _).trans ((h6 p hp).2 hk')⟩
   obtain ⟨g1, x, g2, g3⟩ := (h6 p hp).1 k' hk'
   exact ⟨(has_put_other (ltr_ne e) _).trans g1, x, fun zd => (atKey_put_other (ltr_ne e) _ _).trans (g2 zd), g3.keeps hk⟩
theorem MpK.delD {w w' : World} {m : Nat} {T : Tbl} {ks : List Int} (h : MpK w m T ks) {D : DataW Value} (hD : w.ownsMap Try.prog 3 rdM m ks.length D) (hk : Keeps w w') {q : Int} {n : Nat} (hq : q ∈ ks) (ho : w'.ownsMap Try.prog 3 rdM m n (D.del (.int .i64 q))) : MpK w' m (delT T q) (ks.erase q) := by
 obtain ⟨D', h1, h2, h3, h4, h5, h6⟩ := h
 obtain rfl : D' = D := by
  obtain ⟨es, c, hb, F, _, rfl⟩ := h1
  obtain ⟨es', c', hb', F', _, rfl⟩ := hD
  rw [hb] at hb'
  simp only [Option.some.injEq, Obj.map.injEq] at hb'
  rw [hb'.1]
 have hwq := h5 q hq
 obtain ⟨k0, hk0⟩ := Option.ne_none_iff_exists'.1 ((h4 q).2 hq)
 have hsz : Maps.size (D'.del (.int .i64 q)) = (ks.erase q).length := by
  have := size_del (k := .int .i64 q) (h1.tidy lawI)
  rw [((h6 q hwq).1 k0 hk0).1, h2] at this
  rw [List.length_erase_of_mem hq]
  simp at this
  omega
 refine ⟨_, by rw [← hsz]; exact MpK.tight ho, hsz, h3.erase q, ?_, fun p hp => h5 p (List.mem_of_mem_erase hp), ?_⟩
 ·intro p
  rw [h3.mem_erase_iff, ← h4]
  unfold delT
  by_cases e : p = q
  ·simp [e]
  ·simp [e]
 ·intro p hp
  unfold delT
  by_cases e : p = q
  ·subst e
   rw [if_pos rfl]
   exact ⟨fun k' hk' => (by cases hk'), fun _ => has_del_same⟩
  ·rw [if_neg e]
   refine ⟨fun k' hk' => ?_, fun hk' => (has_del_other (ltr_ne e)).trans ((h6 p hp).2 hk')⟩
   obtain ⟨g1, x, g2, g3⟩ := (h6 p hp).1 k' hk'
   exact ⟨(has_del_other (ltr_ne e)).trans g1, x, fun zd => (atKey_del_other (ltr_ne e) _).trans (g2 zd), g3.keeps hk⟩
theorem MpK.lookS {w : World} {m : Nat} {T : Tbl} {ks : List Int} (h : MpK w m T ks) {q : Int} (hq : wfI q) :
  (∀ k, T q = some k → ∃ (a : Option Addr) (c : Nat), (Instr.lookup 61 (.map (some m)) (.int .i64 q) true).run Try.prog w = .ok (.tuple #[.agg #[.int .i64 q, .int .i64 k.1, .slice a k.2.length c], .bool true]) w ∧ Nums w (.slice a k.2.length c) k.2) ∧
  (T q = none → (Instr.lookup 61 (.map (some m)) (.int .i64 q) true).run Try.prog w = .ok (.tuple #[.agg #[.int .i64 0, .int .i64 0, .slice none 0 0], .bool false]) w) := by
 obtain ⟨h1, h2⟩ := h.look hq
 refine ⟨fun k hk => ?_, h2⟩
 obtain ⟨x, g1, g2⟩ := h1 k hk
 obtain ⟨a, c, hx, hn⟩ := g2.mv
 rw [hx] at g1
 exact ⟨a, c, g1, hn⟩
theorem OwnN.setB {w : World} {base : Nat} {v : Value} {l : List Int} (h : OwnN w base v l) {b : Nat} {cs : Array Value} {t : TypeId} (hb : Blk w b cs t) (ht : 3 ≠ t) (o : Nat) (u : Value) : OwnN (w.setCell ⟨b, o, none⟩ u) base v l :=
 World.ownsRow.kept h (gSet w b o u) (.inr (Ne.symm (own_ne h hb ht)))
set_option maxRecDepth 100000 in
set_option maxHeartbeats 1600000 in
theorem along_any (v : Value) (k : Mk) (a : Ar) (w : World) (h : MkIs w v k) (hs : k.2.2.length ≤ 1000000) (h0 : 0 ≤ k.2.1) (h1 : k.2.1 ≤ 1000000000000000) (h2 : 0 ≤ a.2.2.1) (h3 : a.2.2.1 ≤ 1000000000000) :
  Calls Try.prog 60 #[v, .agg #[.int .i64 a.1, .int .i64 a.2.1, .int .i64 a.2.2.1, .int .i64 a.2.2.2]] w fun e w' => ∃ vo, e = .returned (.agg #[.int .i64 a.2.2.2, .int .i64 (goA k.2 a).1, vo]) ∧ OwnN w' w.heap.size vo (goA k.2 a).2 ∧ Below w.heap.size w w' := by
 have HV := hidP h
 obtain ⟨q, x, l⟩ := k
 obtain ⟨a0, a1, a2, a3⟩ := a
 obtain ⟨vo, rfl, hn⟩ := h
 simp only at hn hs h0 h1 h2 h3 ⊢
 obtain ⟨al, cl, rfl⟩ := Row.sl hn
 clear hn
 have HU : Hid (Below w.heap.size w (((w.alloc (.cells #[.int .i64 q, .int .i64 x, .slice al l.length cl] 67)).alloc (.cells #[.int .i64 a0, .int .i64 a1, .int .i64 a2, .int .i64 a3] 75)).alloc (.cells #[.int .i64 0, .int .i64 0, .slice none 0 0] 67))) := by show Below _ _ _; go_grown
 by_cases hz : a1 = 0
 ·have HG : Hid (goA (x, l) (a0, a1, a2, a3) = (x + a2, l)) := by show _ = _; simp [goA, hz]
  rw [HG.out]
  subst hz
  go_enter Try.func60, Try.ntmps60
  go_wp2_with (first
   | (go_at_call 53; (with_reducible refine (copied_any _ (q, x, l) _ (HV.out.later HU.out (Nat.le_refl _)) (by simp only; omega)).mono ?_); rintro e w1 ⟨v1, rfl, ho, hb⟩; have HO : Hid (OwnN w1 (w.heap.size + 3) v1 l) := (by show OwnN _ _ _ _; simpa using ho); obtain ⟨c1, k1, rfl⟩ := ho.sl; obtain ⟨s1, b1, b2, b3, hb1⟩ := boxedThree hb (by simp); have HB1 := hidP hb1; have e0 := b2.cell 0 (v := .int .i64 a0) rfl; have e1 := b2.cell 1 (v := .int .i64 0) rfl; have e2 := b2.cell 2 (v := .int .i64 a2) rfl; have e3 := b2.cell 3 (v := .int .i64 a3) rfl; have d0 := b3.cell 0 (v := .int .i64 0) rfl; have d1 := b3.cell 1 (v := .int .i64 0) rfl; have d2 := b3.cell 2 (v := .slice none 0 0) rfl; have g0 := b3.fz 0; have g1 := b3.fz 1; have g2 := b3.fz 2; have z2 : w.heap.size + 2 < w1.heap.size := (by omega); have z1 : w.heap.size + 1 < w1.heap.size := (by omega); clear b1 b2 b3 hb1 hb ho))
  exact bodyPost_ret (v := .agg #[.int .i64 a3, .int .i64 (x + a2), .slice c1 l.length k1]) (by simp [results, Try.results60, go_sem, *]) rfl ⟨_, rfl, OwnN.mono (((((HO.out.set (by show w.heap.size + 2 < _; omega) _).set (by show w.heap.size + 2 < _; omega) _).set (by show w.heap.size + 2 < _; omega) _)).later ((Below.refl _ _).alloc (Nat.le_refl _) _)) (by omega), by have h9 := HB1.out; go_grown⟩
 ·have HG : Hid (goA (x, l) (a0, a1, a2, a3) = (x + a2, l ++ [a1])) := by show _ = _; simp [goA, hz]
  rw [HG.out]
  go_enter Try.func60, Try.ntmps60
  go_wp2_with (first
   | (go_at_call 53; (with_reducible refine (copied_any _ (q, x, l) _ (HV.out.later HU.out (Nat.le_refl _)) (by simp only; omega)).mono ?_); rintro e w1 ⟨v1, rfl, ho, hb⟩; have HO : Hid (OwnN w1 (w.heap.size + 3) v1 l) := (by show OwnN _ _ _ _; simpa using ho); obtain ⟨c1, k1, rfl⟩ := ho.sl; obtain ⟨s1, b1, b2, b3, hb1⟩ := boxedThree hb (by simp); have HB1 := hidP hb1; have B3 := hidP b3; have HW5 : OwnN (w1.alloc (.cells #[.int .i64 a3, .int .i64 (x + a2), .slice c1 l.length k1] 67)) (w.heap.size + 3) (.slice c1 l.length k1) l := HO.out.later ((Below.refl _ _).alloc (Nat.le_refl _) _); obtain ⟨a5, k5, w5, r5, o5, hb5, hg5⟩ := HW5.push a1 (by omega) (by simp; omega); have BW : Blk (w1.alloc (.cells #[.int .i64 a3, .int .i64 (x + a2), .slice c1 l.length k1] 67)) w1.heap.size #[.int .i64 a3, .int .i64 (x + a2), .slice c1 l.length k1] 67 := Blk.made w1 _ _; have HBW : Hid (Blk w5 w1.heap.size #[.int .i64 a3, .int .i64 (x + a2), .slice c1 l.length k1] 67) := (BW.alloc _).grown hg5 (own_ne HW5 BW (by decide)); simp only [World.size_alloc] at r5; have HR5 := hidP r5; have HO5 := hidP o5; have HB5 : Hid (Below w.heap.size w w5) := (by show Below _ _ _; exact hb1.trans ((((Below.refl _ _).alloc (Nat.le_refl _) _).mono hb1.size).trans (hb5.mono (by omega)))); have HB53 : Hid (Blk w5 (w.heap.size + 2) #[.int .i64 0, .int .i64 0, .slice none 0 0] 67) := (b3.alloc _).below hb5 (by omega); have zz5 := hb5.size; simp only [World.size_alloc] at zz5; have u0 := HBW.out.cell 0 (v := .int .i64 a3) rfl; have u1 := HBW.out.cell 1 (v := .int .i64 (x + a2)) rfl; have u2 := HBW.out.cell 2 (v := .slice c1 l.length k1) rfl; have t0 := HBW.out.fz 2; have y0 := HB53.out.cell 0 (v := .int .i64 0) rfl; have y1 := HB53.out.cell 1 (v := .int .i64 0) rfl; have y2 := HB53.out.cell 2 (v := .slice none 0 0) rfl; have x0 := HB53.out.fz 0; have x1 := HB53.out.fz 1; have x2 := HB53.out.fz 2; have zn1 : ¬ w.heap.size + 2 = w1.heap.size := (by omega); clear HW5 BW r5 o5 hb5 hg5; have e0 := b2.cell 0 (v := .int .i64 a0) rfl; have e1 := b2.cell 1 (v := .int .i64 a1) rfl; have e2 := b2.cell 2 (v := .int .i64 a2) rfl; have e3 := b2.cell 3 (v := .int .i64 a3) rfl; have d0 := b3.cell 0 (v := .int .i64 0) rfl; have d1 := b3.cell 1 (v := .int .i64 0) rfl; have d2 := b3.cell 2 (v := .slice none 0 0) rfl; have g0 := b3.fz 0; have g1 := b3.fz 1; have g2 := b3.fz 2; have z2 : w.heap.size + 2 < w1.heap.size := (by omega); have z1 : w.heap.size + 1 < w1.heap.size := (by omega); clear b1 b2 b3 hb1 hb ho)
   | (at_builtin; refine wpListAppendRun rfl _ _ 35 rfl rfl rfl HR5.out ?_; clear HR5))
  exact bodyPost_ret (v := .agg #[.int .i64 a3, .int .i64 (x + a2), .slice a5 (l.length + 1) k5]) (by simp [results, Try.results60, go_sem, *]) rfl ⟨_, rfl, OwnN.mono (((((HO5.out.setB HBW.out (by decide) 2 _).set (by show w.heap.size + 2 < _; omega) _).set (by show w.heap.size + 2 < _; omega) _).set (by show w.heap.size + 2 < _; omega) _)) (by omega), by have h9 := HB5.out; go_grown⟩
end Go.Proofs.Ytkeeiihaijhdoaa.Sm
