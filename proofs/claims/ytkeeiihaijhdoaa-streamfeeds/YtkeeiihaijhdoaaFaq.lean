/- The reference: marks as a run; what Started answers. -/
import Derived.Test.YtkeeiihaijhdoaaFao
import Derived.Test.YtkeeiihaijhdoaaFap
import Derived.Test.YtkeeiihaijhdoaaFal
namespace Go.Proofs.Ytkeeiihaijhdoaa.Sm
open Go.ChangeShapes Go.WideShapes Go.ChangeAt Go.RowKit
open Go.Proofs.Ytkeeiihaijhdoaa.Pl Go.Proofs.Ytkeeiihaijhdoaa.Wt
set_option linter.unusedVariables false
set_option linter.unusedSimpArgs false
def OwnR (X : Nat) (wc w : World) (base : Nat) (v : Value) (l : List Mk) : Prop := ∃ vs : List MkV, w.ownsRow base 67 3 v vs.length (vs.flatMap encM) ∧ vs.length = l.length ∧ ∀ j, j < l.length → (el vs j).1 = (el l j).1 ∧ (el vs j).2.1 = (el l j).2.1 ∧ NumE X X wc (el vs j).2.2 (el l j).2.2
theorem OwnR.nil (X : Nat) (wc w : World) (base : Nat) : OwnR X wc w base (.slice none 0 0) [] := ⟨[], World.ownsRow_nil _ _ _ _, rfl, by simp⟩
theorem OwnR.marksX {X : Nat} {wc w : World} {base : Nat} {v : Value} {l : List Mk} (h : OwnR X wc w base v l) (hk : ∀ b, b < wc.heap.size → b ≠ X → w.heap[b]? = wc.heap[b]?) (hs : wc.heap.size ≤ w.heap.size) (hX : X < base) : MarksX X w v l := by
 obtain ⟨vs, h1, h2, h3⟩ := h
 refine ⟨vs, fun w' hw => ?_, h2, fun j hj => ⟨(h3 j hj).1, (h3 j hj).2.1, (h3 j hj).2.2.next (fun b hb hx _ => hk b hb hx) hs⟩⟩
 have ho : w'.ownsRow base 67 3 v vs.length (vs.flatMap encM) := by
  refine ⟨h1.1, ?_⟩
  rcases h1.2 with hn | ⟨g, cap, cur, rfl, hbg, hgg, rest⟩
  ·exact .inl hn
  ·refine .inr ⟨g, cap, cur, rfl, hbg, ?_, rest⟩
   rw [hw g (Array.getElem?_eq_some_iff.1 hgg).1 (by omega)]
   exact hgg
 exact Row.ofOwn encM_len ho rfl
theorem OwnR.sl {X : Nat} {wc w : World} {base : Nat} {v : Value} {l : List Mk} (h : OwnR X wc w base v l) : ∃ a c, v = .slice a l.length c := by
 obtain ⟨vs, h1, h2, h3⟩ := h
 obtain ⟨a, c, hv⟩ := Row.sl (Row.ofOwn encM_len h1 rfl)
 exact ⟨a, c, by rw [← h2]; exact hv⟩
theorem OwnR.later {X : Nat} {wc w w' : World} {base : Nat} {v : Value} {l : List Mk} (h : OwnR X wc w base v l) (hb : Below w.heap.size w w') : OwnR X wc w' base v l := by
 obtain ⟨vs, h1, h2, h3⟩ := h
 exact ⟨vs, ownBelow h1 hb, h2, h3⟩
theorem OwnR.set {X : Nat} {wc w : World} {base : Nat} {v : Value} {l : List Mk} (h : OwnR X wc w base v l) {a : Addr} (ha : a.block < base) (u : Value) : OwnR X wc (w.setCell a u) base v l := by
 obtain ⟨vs, h1, h2, h3⟩ := h
 exact ⟨vs, ownsRow_setCell_below h1 ha u, h2, h3⟩
theorem OwnR.push {X : Nat} {wc W : World} {base : Nat} {vo : Value} {l : List Mk} (hown : OwnR X wc W base vo l) (k : Mk) {a0 : Option Addr} {c0 : Nat} (hva : NumE X X wc (.slice a0 k.2.2.length c0) k.2.2) (hl : (l.length + 1) * 40 ≤ 140737488355328) (hbase : base ≤ W.heap.size) :
  ∃ a c w3, (Builtin.append_ #[26, 26] 26 #[vo, .slice (some ⟨W.heap.size, 0, none⟩) 1 1]).run Try.prog (W.alloc (.cells #[.int .i64 k.1, .int .i64 k.2.1, .slice a0 k.2.2.length c0] 67)) = .ok (.slice a (l.length + 1) c) w3 ∧ OwnR X wc w3 base (.slice a (l.length + 1) c) (l ++ [k]) ∧ Below base W w3 := by
 obtain ⟨i1, hi1, hy0, hy1, hy2⟩ := info_parts infoMark
 obtain ⟨vs, q1, q2, q3⟩ := hown
 have hg : W.grownBy (W.alloc (.cells #[.int .i64 k.1, .int .i64 k.2.1, .slice a0 k.2.2.length c0] 67)) none := ⟨rfl, rfl, rfl, by simp, fun k hk _ => Below.heap_alloc W _ k hk⟩
 have e0 : (W.alloc (.cells #[.int .i64 k.1, .int .i64 k.2.1, .slice a0 k.2.2.length c0] 67)).heap[W.heap.size]? = some (.cells #[.int .i64 k.1, .int .i64 k.2.1, .slice a0 k.2.2.length c0] 67 (0, 0)) := Blk.made W _ _
 have kn : ∀ v : Value, v.ownBlock = none ∨ v.ownBlock ≠ none := fun v => by rcases v.ownBlock with _ | _ <;> simp
 have hvo := q1.kept hg (kn _)
 obtain ⟨v3, w3, hr, h1, h2, _⟩ := run_append_own (P := Try.prog) (W.alloc (.cells #[.int .i64 k.1, .int .i64 k.2.1, .slice a0 k.2.2.length c0] 67)) base 26 26 67 i1 _ 3 40 Try.underlying26 hi1 hy0 hy1 hy2 rfl (by omega) vo vs.length (vs.flatMap encM) hvo ⟨W.heap.size, 0, none⟩ 1 1 [.int .i64 k.1, .int .i64 k.2.1, .slice a0 k.2.2.length c0] rfl (World.news_of_block (cs := #[.int .i64 k.1, .int .i64 k.2.1, .slice a0 k.2.2.length c0]) e0) (by
  intro u hu
  simp at hu
  rcases hu with rfl | rfl | rfl
  ·rfl
  ·rfl
  ·rfl) (by rw [q2]; unfold maxLen; omega) (by rw [q2]; exact hl) (by simp; omega)
 have hO : OwnR X wc w3 base v3 (l ++ [k]) := by
  refine ⟨vs ++ [(k.1, k.2.1, .slice a0 k.2.2.length c0)], by simpa [encM] using h1, by simp [q2], ?_⟩
  intro j hj
  have hj' : j < l.length ∨ j = l.length := by simp at hj; omega
  rcases hj' with hj' | rfl
  ·rw [el_left (by omega), el_left hj']
   exact q3 j hj'
  ·rw [el_last, ← q2, el_last]
   exact ⟨rfl, rfl, hva⟩
 obtain ⟨a, c, hv⟩ := hO.sl
 rw [List.length_append, List.length_singleton] at hv
 subst hv
 exact ⟨a, c, w3, hr, hO, ((Below.refl _ _).grown hg hbase (by simp)).grown h2 (by simp; omega) (own_geK hvo)⟩
def HeldA (p : Nat) (s : Value) (b o : Nat) (x0 x1 x2 : Value) (w : World) : Prop := w.cell? ⟨p, 1, none⟩ = some s ∧ w.cell? ⟨b, o, none⟩ = some x0 ∧ w.cell? ⟨b, o + 1, none⟩ = some x1 ∧ w.cell? ⟨b, o + 2, none⟩ = some x2
def RunX (X : Nat) (w : World) (v : Value) (r : Ru) : Prop := ∃ vs, v = .agg #[.int .i64 r.1, vs] ∧ MarksX X w vs r.2
theorem RunX.nil (X : Nat) (w : World) : RunX X w (.agg #[.int .i64 0, .slice none 0 0]) (0, []) := ⟨_, rfl, [], fun _ _ => .inl ⟨rfl, rfl⟩, rfl, by simp⟩
def RunResX (X : Nat) (r : Ru) (ec : Int) (w : World) (e : Ending) (w' : World) : Prop := ∃ v, e = .returned (.tuple #[v, .int .i64 ec]) ∧ RunX X w' v r ∧ Below w.heap.size w w'
def AsAns (m : Mc) (T : Tbl) (fed : Int) (r : Ru) (ec : Int) : Prop := ∃ K, Clo m T K ∧ ((OverT K ∧ r = (0, []) ∧ ec = 4) ∨ (¬ OverT K ∧ r = (fed, ordL m.2.length K) ∧ ec = 0))
set_option maxRecDepth 100000 in
set_option maxHeartbeats 4000000 in
theorem asRunR_any (v : Value) (mc : Mc) (vl : Value) (ms0 : List Mk) (T : Tbl) (A : Int) (Bd : Nat) (fed : Int) (X : Nat) (w : World) (hX : X < w.heap.size) (h : Mach w v mc) (hok : okM mc) (hf : faultM mc = 0) (hML : MarksX X w vl ms0) (hNz : NzT T) (hTR : TRel mc.2.length T ms0) (hD : DomT mc.2.length T) (hb : BndT A Bd T) (hA : A ≤ 100000000000000) (hBB : Bd ≤ 100000) :
  Calls Try.prog 33 #[v, vl, .int .i64 fed] w fun e w' => ∃ r ec, AsAns mc T fed r ec ∧ RunResX X r ec w e w' := by
 have HMa := hidP h
 have HK := hidP hok
 have HF := hidP hf
 have HML := hidP hML
 have HTR := hidP hTR
 have HBN := hidP hb
 have HCL : Hid (Clo mc T (itT mc mc.2.length T mc.2.length)) := itT_clo hD (arcs_ok hf)
 have HNZ : Hid (NzT (itT mc mc.2.length T mc.2.length)) := HCL.out.nz hNz
 have HIB : Hid (BndT (A + 60000000000) (Bd + 60) (itT mc mc.2.length T mc.2.length)) := fun p y hp => by
  have h60 : mc.2.length ≤ 60 := by obtain ⟨z, l⟩ := mc; exact (right_size hf).1
  have := itT_bnd hf hb mc.2.length p y hp
  omega
 have h60 : mc.2.length ≤ 60 := by obtain ⟨z, l⟩ := mc; exact (right_size hf).1
 have HDK : Hid (DomT mc.2.length (itT mc mc.2.length T mc.2.length)) := itT_dom hD (arcs_ok hf) _
 obtain ⟨z, l⟩ := mc
 obtain ⟨vs, rfl, hS⟩ := h
 obtain ⟨a, cap, rfl⟩ := hS.sl
 obtain ⟨al, cl, rfl⟩ := hML.sl
 have HU : Hid (Below w.heap.size w ((w.alloc (.cells #[.int .i64 z, .slice a l.length cap] 24)).alloc (.cells #[.int .i64 0, .slice none 0 0] 28))) := by show Below _ _ _; go_grown
 clear hS hok hf hML hTR hb hD
 have HCA : Hid (∀ X W v vl, X < W.heap.size → Mach W v (z, l) → MarksX X W vl ms0 → Calls Try.prog 56 #[v, vl] W fun e w' => ∃ v' ms', e = .returned v' ∧ MarksX X w' v' ms' ∧ TRel l.length (itT (z, l) l.length T l.length) ms' ∧ Below W.heap.size W w') := fun X W v vl hX h1 h2 => closedR_any v (z, l) vl ms0 T A Bd X W hX h1 HK.out HF.out h2 HTR.out HBN.out hA hBB
 have HOS : Hid (∀ q : Nat, ordL (q + 1) (itT (z, l) l.length T l.length) = ordL q (itT (z, l) l.length T l.length) ++ (match itT (z, l) l.length T l.length (q : Int) with | none => [] | some k => [((q : Int), k)])) := fun q => ordL_succ q _
 have HO0 : Hid (ordL 0 (itT (z, l) l.length T l.length) = []) := rfl
 have HOL : Hid (∀ q, (ordL q (itT (z, l) l.length T l.length)).length ≤ q) := fun q => ordL_len q _
 have HANS : Hid (∀ r ec, ((OverT (itT (z, l) l.length T l.length) ∧ r = (0, []) ∧ ec = 4) ∨ (¬ OverT (itT (z, l) l.length T l.length) ∧ r = (fed, ordL l.length (itT (z, l) l.length T l.length)) ∧ ec = 0)) → AsAns (z, l) T fed r ec) := fun r ec h => ⟨_, HCL.out, h⟩
 have HKB : Hid (∀ q y, itT (z, l) l.length T l.length q = some y → y.2.length ≤ 1000000 ∧ 0 ≤ y.1 ∧ y.1 ≤ 1000000000000000 ∧ 0 ≤ q ∧ q < l.length) := fun q y hy => by
  have h1 := HIB.out q y hy
  have h2 := HDK.out q y hy
  simp only at h2
  omega
 clear HCL HIB HDK HTR HBN HF HK
 simp only at h60
 generalize itT (z, l) l.length T l.length = K at *
 generalize l.length = n at *
 go_enter Try.func33, Try.ntmps33
 go_wp2_with (first
  | (go_at_call 56; (with_reducible refine (HCA.out X _ _ _ (by simp; omega) (HMa.out.later HU.out (Nat.le_refl _)) (HML.out.below HU.out)).mono ?_); rintro e w1 ⟨v1, ms, rfl, hm1, htr1, hb⟩; obtain ⟨a1, c1, rfl⟩ := hm1.sl; obtain ⟨s1, b1, b2, hb1⟩ := boxedTwo hb (by simp); have HB1 := hidP hb1; have BR1 := hidP b2; have HM1 := hidP hm1; have HT1 := hidP htr1; rw [htr1.1] at hm1; have HM1' := hidP hm1; rw [htr1.1]; clear hb hb1 b1 b2 hm1 htr1))
 go_loopw [10] (fun i wr => ∃ (q : Nat) (vo : Value), q ≤ n ∧ i = .int .i64 q ∧ Hid (OwnR X w1 wr (w1.heap.size + 1) vo (ordL q K)) ∧ Hid (Blk wr w1.heap.size #[.int .i64 fed, vo] 28) ∧ Hid (Blk wr (w.heap.size + 1) #[.int .i64 0, .slice none 0 0] 28) ∧ Hid (∀ j : Nat, j < q → ∀ y, K (j : Int) = some y → y.1 ≤ 1000000000) ∧ w1.heap.size + 1 ≤ wr.heap.size ∧ Hid (Below w1.heap.size w1 wr)) (fun i _ => n - (intOf i).toNat)
 case atStart => exact ⟨0, .slice none 0 0, Nat.zero_le _, rfl, by rw [HO0.out]; exact OwnR.nil _ _ _ _, Blk.made w1 _ _, BR1.out.alloc _, (by intro j hj; omega), by simp, by show Below _ _ _; go_grown⟩
 case round =>
  obtain ⟨q, vo, hq, rfl, hown, b9, b6, hpre, hsz, hbw⟩ := hrel
  obtain ⟨ar, cr, hvo⟩ := hown.out.sl
  subst hvo
  have hLq := HOL.out q
  have c1' := b9.out.cell 1 (v := .slice ar (ordL q K).length cr) rfl
  have c0' := b9.out.cell 0 (v := .int .i64 fed) rfl
  have y0 := b6.out.cell 0 (v := .int .i64 0) rfl
  have y1 := b6.out.cell 1 (v := .slice none 0 0) rfl
  have t0 := b6.out.fz 0
  have t1 := b6.out.fz 1
  have zw1 : w1.heap.size < wr.heap.size := by omega
  have z6 : w.heap.size + 1 < wr.heap.size := by omega
  by_cases hqt : q < n
  ·have hq0 : (0 : Int) ≤ (q : Int) := by omega
   have hq1 : (q : Int) < (n : Int) := by omega
   obtain ⟨b, off, vq, e1, hbl, g0, g1, g2, hno⟩ := HM1.out.get (j := q) (by rw [HT1.out.1]; exact hqt)
   subst e1
   have g0 := (hbw.out.cell (p := ⟨b, off + q * 3, none⟩) hbl).trans g0
   have g1 := (hbw.out.cell (p := ⟨b, off + q * 3 + 1, none⟩) hbl).trans g1
   have g2 := (hbw.out.cell (p := ⟨b, off + q * 3 + 2, none⟩) hbl).trans g2
   obtain ⟨ao, co, rfl⟩ := Row.sl hno.nums
   have HNO := hidP hno
   have HREL := hidP (HT1.out.2 q hqt)
   have HOq := hidP (HOS.out q)
   have zb : b < wr.heap.size := Nat.lt_of_lt_of_le hbl hbw.out.size
   have zb1 : b < w1.heap.size + 1 := by omega
   clear hno hbl
   rcases hKq : K (q : Int) with _ | y
   ·have hneg : (el ms q).1 < 0 := HREL.out.2.1 hKq
    have HON : Hid (ordL (q + 1) K = ordL q K) := by show _ = _; rw [HOq.out, hKq]; simp
    go_wp2
    go_roundw
    case rel => exact ⟨q + 1, _, by omega, by go_num, by rw [HON.out]; exact hown.out, b9, b6, (by intro j hj y hy; rcases Nat.lt_or_ge j q with g | g; exact hpre.out j g y hy; rw [show j = q by omega] at hy; rw [hKq] at hy; cases hy), by omega, hbw⟩
    case measure => simp [intOf]; omega
   ·have hkq : el ms q = ((q : Int), y) := HREL.out.1 y hKq
    rw [hkq] at g0 g1 g2 HNO
    simp only at g0 g1 g2
    have HKY := HKB.out _ _ hKq
    have hpos : ¬ (q : Int) < 0 := by omega
    by_cases hov : 1000000000 < y.1
    ·have HOV : Hid (OverT K) := ⟨_, y, hKq, hov⟩
     go_wp2
     exact bodyPost_ret (v := .tuple #[.agg #[.int .i64 0, .slice none 0 0], .int .i64 4]) (by simp [results, Try.results33, go_sem, *]) rfl ⟨0, [], 4, HANS.out _ _ (.inl ⟨HOV.out, rfl, rfl⟩), _, rfl, RunX.nil _ _, by have h9 := HB1.out.trans (hbw.out.mono HB1.out.size); go_grown⟩
    ·have HON : Hid (ordL (q + 1) K = ordL q K ++ [((q : Int), y)]) := by show _ = _; rw [HOq.out, hKq]
     have HNO2 : Hid (NumE X X w1 (.slice ao y.2.length co) y.2) := HNO.out
     have HPR : Hid (∀ j : Nat, j < q + 1 → ∀ y, K (j : Int) = some y → y.1 ≤ 1000000000) := by
      intro j hj y' hy
      rcases Nat.lt_or_ge j q with g | g
      ·exact hpre.out j g y' hy
      ·rw [show j = q by omega, hKq, Option.some.injEq] at hy
       rw [← hy]; omega
     clear hKq HNO HREL HOq hpre
     have hs1 : Below wr.heap.size wr wr.drew := (Below.refl _ _).drew
     obtain ⟨a9, c9, w9, r9, o9, hb9⟩ := (hown.out.later hs1).push ((q : Int), y) (a0 := ao) (c0 := co) HNO2.out (by omega) (by show _ ≤ wr.heap.size; omega)
     have HR9 : Hid ((Builtin.append_ #[26, 26] 26 #[.slice ar (ordL q K).length cr, .slice (some ⟨wr.heap.size, 0, none⟩) 1 1]).run Try.prog (wr.drew.alloc (.cells #[.int .i64 (q : Int), .int .i64 y.1, .slice ao y.2.length co] 67)) = .ok (.slice a9 ((ordL q K).length + 1) c9) w9) := r9
     have HO9 : Hid (OwnR X w1 w9 (w1.heap.size + 1) (.slice a9 ((ordL q K).length + 1) c9) (ordL (q + 1) K)) := by show OwnR _ _ _ _ _ _; rw [HON.out]; exact o9
     have HB9 : Hid (Below (w1.heap.size + 1) wr w9) := (hs1.mono (by omega)).trans hb9
     have B9 := hidP (b9.out.below HB9.out (by omega))
     have B6 := hidP (b6.out.below HB9.out (by omega))
     have x1 := B9.out.cell 1 (v := .slice ar (ordL q K).length cr) rfl
     have xf := B9.out.fz 1
     have zz9 := HB9.out.size
     have HS : HeldA w1.heap.size (.slice ar (ordL q K).length cr) b (off + q * 3) (.int .i64 (q : Int)) (.int .i64 y.1) (.slice ao y.2.length co) wr.drew := ⟨c1', g0, g1, g2⟩
     have hbD : Below wr.drew.heap.size wr.drew (wr.drew.alloc (.cells #[.int .i64 (q : Int), .int .i64 y.1, .slice ao y.2.length co] 67)) := (Below.refl _ _).alloc (Nat.le_refl _) _
     have HS9 : HeldA w1.heap.size (.slice ar (ordL q K).length cr) b (off + q * 3) (.int .i64 (q : Int)) (.int .i64 y.1) (.slice ao y.2.length co) w9 := ⟨x1, (HB9.out.cell (p := ⟨b, off + q * 3, none⟩) zb1).trans g0, (HB9.out.cell (p := ⟨b, off + q * 3 + 1, none⟩) zb1).trans g1, (HB9.out.cell (p := ⟨b, off + q * 3 + 2, none⟩) zb1).trans g2⟩
     clear r9 o9 hb9 hs1
     generalize (ordL q K).length = L at *
     go_wp2
     refine region_anyL (HeldA w1.heap.size (.slice ar L cr) b (off + q * 3) (.int .i64 (q : Int)) (.int .i64 y.1) (.slice ao y.2.length co)) 9 (by kernel_rfl) ?_
     refine anyL_tk (i := 0) (v := ?v0_1) aZ0 (by kernel_rfl) ?y0_1 HS ?r0_1
     case y0_1 => intro wx hx; obtain ⟨h0, h1, h2, h3⟩ := hx; go_simp; try (with_reducible rfl)
     simp only [Act.put, List.setIfInBounds_toArray, List.set_cons_zero, List.set_cons_succ]
     refine anyL_tk (i := 1) (v := ?v1_2) aZ1 (by kernel_rfl) ?y1_2 HS ?r1_2
     case y1_2 => intro wx hx; obtain ⟨h0, h1, h2, h3⟩ := hx; go_simp; try (with_reducible rfl)
     simp only [Act.put, List.setIfInBounds_toArray, List.set_cons_zero, List.set_cons_succ]
     refine anyL_tk (i := 2) (v := ?v2_3) aZ2 (by kernel_rfl) ?y2_3 HS ?r2_3
     case y2_3 => intro wx hx; obtain ⟨h0, h1, h2, h3⟩ := hx; go_simp; try (with_reducible rfl)
     simp only [Act.put, List.setIfInBounds_toArray, List.set_cons_zero, List.set_cons_succ]
     refine anyL_tk (i := 3) (v := ?v3_4) aZ3 (by kernel_rfl) ?y3_4 HS ?r3_4
     case y3_4 => intro wx hx; obtain ⟨h0, h1, h2, h3⟩ := hx; go_simp; try (with_reducible rfl)
     simp only [Act.put, List.setIfInBounds_toArray, List.set_cons_zero, List.set_cons_succ]
     refine anyL_tk (i := 4) (v := ?v4_5) aZ4 (by kernel_rfl) ?y4_5 HS ?r4_5
     case y4_5 => intro wx hx; obtain ⟨h0, h1, h2, h3⟩ := hx; go_simp; try (with_reducible rfl)
     simp only [Act.put, List.setIfInBounds_toArray, List.set_cons_zero, List.set_cons_succ]
     refine anyL_tk (i := 5) (v := ?v5_6) aZ5 (by kernel_rfl) ?y5_6 HS ?r5_6
     case y5_6 => intro wx hx; obtain ⟨h0, h1, h2, h3⟩ := hx; go_simp; try (with_reducible rfl)
     simp only [Act.put, List.setIfInBounds_toArray, List.set_cons_zero, List.set_cons_succ]
     refine anyL_one (i := 6) aZ6 (by kernel_rfl) rfl (fun K hK => ?_)
     go_simp
     refine hK _ _ (.inr ⟨low HS.1 hbD, low HS.2.1 hbD, low HS.2.2.1 hbD, low HS.2.2.2 hbD⟩) ?_
     try simp only [Act.put, List.setIfInBounds_toArray, List.set_cons_zero, List.set_cons_succ]
     refine anyL_one (i := 7) aZ7 (by kernel_rfl) rfl (fun K hK => ?_)
     refine wp_append_run (.tmp 36) (.tmp 41) 26 rfl rfl rfl HR9.out ?_
     refine hK _ _ (.inr HS9) ?_
     try simp only [Act.put, List.setIfInBounds_toArray, List.set_cons_zero, List.set_cons_succ]
     refine anyL_tk (i := 8) (v := ?v8_7) aZ8 (by kernel_rfl) ?y8_7 HS9 ?r8_7
     case y8_7 => intro wx hx; obtain ⟨h0, h1, h2, h3⟩ := hx; go_simp; try (with_reducible rfl)
     simp only [Act.put, List.setIfInBounds_toArray, List.set_cons_zero, List.set_cons_succ]
     refine anyL_one (i := 9) aZ9 (by kernel_rfl) rfl (fun K hK => ?_)
     go_simp
     refine hK _ _ (.inl rfl) (anyL_done (by kernel_rfl) (NoPanic.normal ?_))
     try simp only [Act.put, List.setIfInBounds_toArray, List.set_cons_zero, List.set_cons_succ]
     clear HS HS9
     go_wp2
     go_roundw
     case rel => exact ⟨q + 1, _, by omega, by go_num, HO9.out.set (by show w1.heap.size < _; omega) _, B9.out.set 1 _, B6.out.setO _ _ (by show w.heap.size + 1 ≠ w1.heap.size; omega), HPR, by simp; omega, by show Below _ _ _; have h9 := hbw.out.trans (HB9.out.mono (by omega)); go_grown⟩
     case measure => simp [intOf]; omega
  ·have hqn : q = n := by omega
   have hnl : ¬ (q : Int) < (n : Int) := by omega
   have HNOV : Hid (¬ OverT K) := by
    rintro ⟨p, y, hy, hyo⟩
    obtain ⟨_, _, _, p0, p1⟩ := HKB.out p y hy
    have := hpre.out p.toNat (by omega) y (by rw [show ((p.toNat : Nat) : Int) = p by omega]; exact hy)
    omega
   have hX1 : X < w1.heap.size := Nat.lt_of_lt_of_le hX HB1.out.size
   have HMX : Hid (MarksX X wr (.slice ar (ordL q K).length cr) (ordL q K)) := hown.out.marksX (fun b hb _ => hbw.out.block b hb) hbw.out.size (by omega)
   have HNL : Hid (NzL (ordL q K)) := HNZ.out.list
   subst hqn
   clear hpre
   go_wp2
   exact bodyPost_ret (v := .tuple #[.agg #[.int .i64 fed, .slice ar (ordL q K).length cr], .int .i64 0]) (by simp [results, Try.results33, go_sem, *]) rfl ⟨fed, ordL q K, 0, HANS.out _ _ (.inr ⟨HNOV.out, rfl, rfl⟩), _, rfl, ⟨_, rfl, HMX.out.zero HNL.out b6.out (fun b hb hx => (Below.heap_setCell _ _ _ b hx).trans (Below.heap_setCell _ _ _ b hx)) (by simp) (by omega)⟩, by have h9 := HB1.out.trans (hbw.out.mono HB1.out.size); go_grown⟩
end Go.Proofs.Ytkeeiihaijhdoaa.Sm
