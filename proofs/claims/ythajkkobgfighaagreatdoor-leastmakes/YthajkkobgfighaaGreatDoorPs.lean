/- The reference: weights that come as early as can be. -/
import Derived.Test.YthajkkobgfighaaGreatDoorJaM
import Derived.Test.YthajkkobgfighaaGreatDoorJaO
import Derived.Test.YthajkkobgfighaaGreatDoorJah
import Derived.Deep.DeepCutAuto
import Derived.Deep.QuietTactic
import Derived.BigQuiet
import Derived.Test.YthajkkobgfighaaGreatDoorJan
namespace Go.Proofs.YthajkkobgfighaaGreatDoor.Wt
open Go.ChangeShapes Go.WideShapes Go.ChangeAt Go.RowKit
open Go.Proofs.YthajkkobgfighaaGreatDoor.Pl
set_option linter.unusedVariables false
set_option linter.unusedSimpArgs false
set_option maxRecDepth 100000 in
theorem pushed_bad (v : Value) (m : Mc) (w : World) (h : Mach w v m) (hok : okM m) (hr : ¬ faultM m = 0) :
  Calls Tryz.prog 14 #[v] w fun e w' => PshRes (PshAns m) w e w' := by
 obtain ⟨z, l⟩ := m
 have HM : Hid (Mach w v (z, l)) := h
 have HK : Hid (okM (z, l)) := hok
 obtain ⟨r, hr0⟩ : ∃ r, faultM (z, l) = r := ⟨_, rfl⟩
 have HR := hidP hr0
 rw [hr0] at hr
 have HA : Hid (PshAns (z, l) (0, []) 0 r) := .inl ⟨by rw [hr0]; exact hr, rfl, rfl, hr0.symm⟩
 have h1' : (r == 0) = false := by simpa using hr
 have h2' : (r != 0) = true := bne_iff_ne.2 hr
 obtain ⟨vs, rfl, hS⟩ := h
 obtain ⟨a, cap, rfl⟩ := hS.sl
 clear hS hok hr0
 go_enter Tryz.func14, Tryz.ntmps14
 go_wp2_with (first
  | (go_at_call 33; (with_reducible refine (trimmed_bad _ (z, l) _ (HM.out.later (B := w.heap.size) (by go_grown) (Nat.le_refl _)) HK.out r HR.out hr).mono ?_); rintro e wa ⟨rfl, hb⟩; obtain ⟨sa, b1, b2, hb1⟩ := boxedTwo hb (by simp); have HBa := hidP hb1; have KRa := hidP b2; have q0 := KRa.out.cell 0 (v := .int .i64 0) rfl; have q1 := KRa.out.cell 1 (v := .slice none 0 0) rfl; have g0 := KRa.out.fz 0; have g1 := KRa.out.fz 1; have s1 : w.heap.size + 1 < wa.heap.size := (by omega); clear b1 b2 hb1 hb))
 exact bodyPost_ret (v := .tuple #[.agg #[.int .i64 0, .slice none 0 0], .int .i64 0, .int .i64 r]) (by simp [results, Tryz.results14, go_sem, *]) rfl ⟨_, _, _, _, rfl, HA.out, mach_zeroR _, by (have h9 := HBa.out); go_grown⟩
def HeldPs (s : Nat) (vs : Value) (b o : Nat) (p0 p1 p2 p3 : Int) (w : World) : Prop := w.cell? ⟨s, 1, none⟩ = some vs ∧ w.cell? ⟨b, o, none⟩ = some (.int .i64 p0) ∧ w.cell? ⟨b, o + 1, none⟩ = some (.int .i64 p1) ∧ w.cell? ⟨b, o + 2, none⟩ = some (.int .i64 p2) ∧ w.cell? ⟨b, o + 3, none⟩ = some (.int .i64 p3)
def HeldFs (t : Nat) (vs : Value) (b o : Nat) (fin : Int) (bF oF : Nat) (fq : Int) (w : World) : Prop := w.cell? ⟨t, 1, none⟩ = some vs ∧ w.cell? ⟨b, o, none⟩ = some (.int .i64 fin) ∧ w.cell? ⟨bF, oF, none⟩ = some (.int .i64 fq)
def HeldEs (o : Nat) (z : Int) (vs : Value) (t bF oF : Nat) (ft : Int) (w : World) : Prop := w.cell? ⟨o, 0, none⟩ = some (.int .i64 z) ∧ w.cell? ⟨o, 1, none⟩ = some vs ∧ w.cell? ⟨t, 0, none⟩ = some (.int .i64 z) ∧ w.cell? ⟨bF, oF, none⟩ = some (.int .i64 ft)
theorem blk_inv {w : World} {b k : Nat} {cs : Array Value} {t : TypeId} {v : Value} (h : Blk w b cs t) (hv : w.cell? ⟨b, k, none⟩ = some v) : cs[k]? = some v := by
 unfold Blk at h
 simpa [World.cell?, h] using hv
theorem held_set {o t bF oF zn R : Nat} {z ft : Int} {vs u1 : Value} {w : World} (h1 : o ≠ R) (h2 : t ≠ R) (hz : z = (zn : Int)) (hR : Blk w R #[.int .i64 0, .slice none 0 0] 24) (h : HeldEs o z vs t bF (oF + zn) ft w) : HeldEs o z vs t bF (oF + zn) ft ((w.setCell ⟨R, 0, none⟩ (.int .i64 z)).setCell ⟨R, 1, none⟩ u1) := by
  have key : ∀ (b k : Nat) (x : Option Value), b ≠ R → w.cell? ⟨b, k, none⟩ = x → ((w.setCell ⟨R, 0, none⟩ (.int .i64 z)).setCell ⟨R, 1, none⟩ u1).cell? ⟨b, k, none⟩ = x := fun b k x hb hx => by
    have e : ((w.setCell ⟨R, 0, none⟩ (.int .i64 z)).setCell ⟨R, 1, none⟩ u1).heap[b]? = w.heap[b]? := (Below.heap_setCell _ _ _ b hb).trans (Below.heap_setCell _ _ _ b hb)
    rw [← hx]
    simp only [World.cell?]
    rw [e]
  refine ⟨key _ _ _ h1 h.1, key _ _ _ h1 h.2.1, key _ _ _ h2 h.2.2.1, ?_⟩
  by_cases e : bF = R
  · subst e
    have h3 := blk_inv hR h.2.2.2
    obtain ⟨k, hk⟩ : ∃ k, oF + zn = k := ⟨_, rfl⟩
    rw [hk] at h3 ⊢
    match k, hk, h3 with
    | 0, hk, h3 =>
      have h4 : ft = 0 := by simpa using h3.symm
      have h5 : z = ft := by omega
      have h6 := ((hR.set 0 (.int .i64 z)).set 1 u1).cell 0 (v := .int .i64 z) (by simp)
      rw [h5] at h6 ⊢
      exact h6
    | 1, hk, h3 => simp at h3
    | k + 2, hk, h3 => simp at h3
  · exact key _ _ _ e h.2.2.2
theorem pshTake {vs : List Int} {q : Nat} {l : List Ar} {k : Nat} (h : k < l.length) : (l.take (k + 1)).map (pshA vs q) = (l.take k).map (pshA vs q) ++ [pshA vs q (el l k)] := by rw [take_el h]; simp
theorem psh_no {vs : List Int} {l : List St} (h : ∀ q, q < l.length → ∀ a ∈ (el l q).2, (pshA vs q a).2.2.1 ≤ 1000000000) : pshO vs l = false := by
 unfold pshO
 rw [List.any_eq_false]
 intro q hq
 rw [List.mem_range] at hq
 rw [Bool.not_eq_true, List.any_eq_false]
 intro a ha
 have := h q hq a ha
 simpa using this
theorem psh_yes {vs : List Int} {l : List St} {q : Nat} (hq : q < l.length) {a : Ar} (ha : a ∈ (el l q).2) (h : 1000000000 < (pshA vs q a).2.2.1) : pshO vs l = true := by
 unfold pshO
 rw [List.any_eq_true]
 refine ⟨q, List.mem_range.2 hq, ?_⟩
 rw [List.any_eq_true]
 exact ⟨a, ha, by simpa using h⟩
theorem dst_rng {m : Mc} {P : Nat → Nat → Prop} {vs : List Int} (h : DstAns m P vs 0) {q : Nat} (hq : q < m.2.length) : 0 ≤ el vs q ∧ el vs q ≤ 1000000001 := by
 rcases h with ⟨h0, _, h1⟩ | ⟨_, ⟨_, _, h2⟩ | ⟨h1, _⟩⟩
 ·exact absurd h1.symm h0
 ·rcases h2 q hq with ⟨_, k, _⟩ | ⟨c, _, ⟨k1, k2, _⟩ | ⟨_, k2, _⟩⟩ <;> omega
 ·cases h1
set_option maxRecDepth 100000 in
set_option maxHeartbeats 6400000 in
theorem pushed_ok (v : Value) (m : Mc) (w : World) (h : Mach w v m) (hok : okM m) (hr : faultM m = 0) :
  Calls Tryz.prog 14 #[v] w fun e w' => PshRes (PshAns m) w e w' := by
 obtain ⟨z, l⟩ := m
 have HM : Hid (Mach w v (z, l)) := h
 have HK : Hid (okM (z, l)) := hok
 have HR := hidP hr
 have HTF : Hid (∀ aa bs, faultM (trimM z l (keptL aa bs l.length)) = 0 ∧ okM (trimM z l (keptL aa bs l.length))) := fun aa bs => ⟨trim_fault (aa := aa) (bs := bs) hr, trim_ok (aa := aa) (bs := bs) hok⟩
 have HAE : Hid (∀ aa bs vs e, Least (AheadC z l) l.length aa → Least (BackC l) l.length bs → DstAns (trimM z l (keptL aa bs l.length)) (EndC (trimM z l (keptL aa bs l.length)).2) vs e → e ≠ 0 → PshAns (z, l) (0, []) 0 e) := fun aa bs vs e hA hB hD he => .inr ⟨hr, aa, bs, vs, e, hA, hB, hD, .inl ⟨he, rfl, rfl, rfl⟩⟩
 have HAO : Hid (∀ aa bs vs, Least (AheadC z l) l.length aa → Least (BackC l) l.length bs → DstAns (trimM z l (keptL aa bs l.length)) (EndC (trimM z l (keptL aa bs l.length)).2) vs 0 → pshO vs (trimM z l (keptL aa bs l.length)).2 = true → PshAns (z, l) (0, []) 0 4) := fun aa bs vs hA hB hD ho => .inr ⟨hr, aa, bs, vs, 0, hA, hB, hD, .inr (.inl ⟨rfl, ho, rfl, rfl, rfl⟩)⟩
 have HAG : Hid (∀ aa bs vs, Least (AheadC z l) l.length aa → Least (BackC l) l.length bs → DstAns (trimM z l (keptL aa bs l.length)) (EndC (trimM z l (keptL aa bs l.length)).2) vs 0 → pshO vs (trimM z l (keptL aa bs l.length)).2 = false → PshAns (z, l) (pshM vs (trimM z l (keptL aa bs l.length))) (pshT vs (trimM z l (keptL aa bs l.length))) 0) := fun aa bs vs hA hB hD ho => .inr ⟨hr, aa, bs, vs, 0, hA, hB, hD, .inr (.inr ⟨rfl, ho, rfl, rfl, rfl⟩)⟩
 obtain ⟨vs0, rfl, hS⟩ := h
 obtain ⟨a, cap, rfl⟩ := hS.sl
 clear hS hok hr
 generalize PshAns (z, l) = ANS at *
 go_enter Tryz.func14, Tryz.ntmps14
 go_wp2_with (first
  | (go_at_call 33; (with_reducible refine (trimmed_ok _ (z, l) _ (HM.out.later (B := w.heap.size) (by go_grown) (Nat.le_refl _)) HK.out HR.out).mono ?_); rintro e w1 ⟨v1, rfl, ⟨aa, hA, bs, hB, hm⟩, hb⟩; obtain ⟨sa, b1, b2, hb1⟩ := boxedTwo hb (by simp); have HB1 := hidP hb1; have KR1 := hidP b2; have HTM : Hid (Mach w1 v1 (trimM z l (keptL aa bs l.length))) := hm; have HTE := hidP (fun vs e => HAE.out aa bs vs e hA hB); have HTO := hidP (fun vs => HAO.out aa bs vs hA hB); have HTG := hidP (fun vs => HAG.out aa bs vs hA hB); obtain ⟨hf1, hk1⟩ := HTF.out aa bs; obtain ⟨vsT, rfl, hS⟩ := hm; obtain ⟨aT, cT, hvT, hcT⟩ := hS.get; subst hvT; clear b1 b2 hb1 hb hA hB hS; generalize hTT : trimM z l (keptL aa bs l.length) = T at *)
  | (go_at_call 34; (with_reducible refine (farEnds_any _ T _ (HTM.out.later (B := w1.heap.size) (by go_grown) (Nat.le_refl _)) hk1).mono ?_); rintro e w2 ⟨vr, fs, ec, rfl, hq, hn, hb⟩; obtain ⟨s2, b1, hb2⟩ := boxed hb (by simp); have HB2 := hidP hb2; have KT2 := hidP b1; have KR2 := hidP (KR1.out.below hb2 (by omega)); have HQ := hidP hq; have HNF := hidP hn; obtain ⟨aF, cF, hvF, _⟩ := hn.get; subst hvF; have HB02 := hidP (HB1.out.trans (hb2.mono HB1.out.size)); have q0 := KR2.out.cell 0 (v := .int .i64 0) rfl; have q1 := KR2.out.cell 1 (v := .slice none 0 0) rfl; have g0 := KR2.out.fz 0; have g1 := KR2.out.fz 1; have t0 := KT2.out.cell 0 (v := .int .i64 T.1) rfl; have t1 := KT2.out.cell 1 (v := .slice aT T.2.length cT) rfl; clear hb hb2 b1 hq hn; rcases Classical.em (ec = 0) with hec | hec; case' inl => (subst hec)))
 ·obtain ⟨zt, lt⟩ := T
  have h60 := (right_size hf1).1
  have HST : Hid (∀ j, j < lt.length → (el lt j).2.length ≤ 400 ∧ ∀ p ∈ (el lt j).2, 0 ≤ p.2.2.1 ∧ p.2.2.1 ≤ 1000000000 ∧ ∃ t : Nat, p.2.2.2 = (t : Int) ∧ t < lt.length) := fun j hj => ⟨(right_states hf1 j hj).2.1, fun p hp => by obtain ⟨_, _, _, _, h5, h6, h7⟩ := arc_rightP hf1 hj hp; exact ⟨h5, h6, h7⟩⟩
  have HFB : Hid (∀ j, j < lt.length → finB (el lt j).1 = true) := fun j hj => (right_st hf1 hj).1
  have HVS : Hid (∀ q, q < lt.length → 0 ≤ el fs q ∧ el fs q ≤ 1000000001) := fun q hq => dst_rng HQ.out hq
  have hfl : fs.length = lt.length := HQ.out.len.1
  have hzr := HQ.out.len.2
  simp only at hzr
  have HC : Hid (∀ j, j < lt.length → ∃ b off va, aT = some ⟨b, off, none⟩ ∧ b < w1.heap.size ∧ w1.cell? ⟨b, off + j * 2, none⟩ = some (.int .i64 (el lt j).1) ∧ w1.cell? ⟨b, off + j * 2 + 1, none⟩ = some va ∧ Arcs w1 va (el lt j).2) := hcT
  have HNP : Hid (0 < lt.length → ∃ b off, aF = some ⟨b, off, none⟩ ∧ b < w2.heap.size ∧ ∀ j, j < lt.length → w2.cell? ⟨b, off + j, none⟩ = some (.int .i64 (el fs j))) := fun hp => by
   obtain ⟨b, off, c9, hv, hb, hc⟩ := Row.plain HNF.out (fun x => by simp [encI1]) (by omega)
   injection hv with h1 _ _
   refine ⟨b, off, h1, hb, fun j hj => ?_⟩
   have := hc j (by omega) 0 _ rfl
   rwa [Nat.mul_one, Nat.add_zero] at this
  obtain ⟨TT, hTT2⟩ : ∃ TT : Nat → List St, ∀ j, (List.range j).map (pshS fs lt) = TT j := ⟨_, fun _ => rfl⟩
  have HT0 : Hid (TT 0 = []) := by show _ = _; rw [← hTT2]; rfl
  have HTS : Hid (∀ j, TT (j + 1) = TT j ++ [(pshF fs j (el lt j).1, (el lt j).2.map (pshA fs j))]) := fun j => by rw [← hTT2, ← hTT2, List.range_succ, List.map_append]; rfl
  have HTL : Hid (∀ j, (TT j).length = j) := fun j => by rw [← hTT2]; simp
  have HTN : Hid (TT lt.length = pshL fs lt) := by show _ = _; rw [← hTT2]; rfl
  have HOV : Hid (∀ q, q < lt.length → ∀ a ∈ (el lt q).2, 1000000000 < (pshA fs q a).2.2.1 → ANS (0, []) 0 4) := fun q hq a ha h => HTO.out fs HQ.out (psh_yes hq ha h)
  have HGO : Hid ((∀ q, q < lt.length → ∀ a ∈ (el lt q).2, (pshA fs q a).2.2.1 ≤ 1000000000) → ANS (pshM fs (zt, lt)) (pshT fs (zt, lt)) 0) := fun h => HTG.out fs HQ.out (psh_no h)
  have KS := KT2
  have KR := KR2
  clear hcT hf1 hk1 hTT2 HTE HTO HTG HQ HTM KT2 KR2 q0 q1 g0 g1 t0 t1 hTT HNF KR1 HTF HAE HAO HAG HM HK HR
  rw [hfl] at *
  generalize hn : lt.length = n at *
  have HN : Hid (lt.length = n) := hn
  clear hn hfl
  have HOM : Hid (OwnSts (w2.alloc (.cells #[.int .i64 zt, .slice none 0 0] 24)) w2.heap.size (.slice none 0 0) (TT 0)) := by rw [HT0.out]; exact OwnSts.nil _ _
  have HMM := hidP (Blk.made w2 #[.int .i64 zt, .slice none 0 0] 24)
  have HBM : Hid (Below w2.heap.size w2 (w2.alloc (.cells #[.int .i64 zt, .slice none 0 0] 24))) := (Below.refl _ _).alloc (Nat.le_refl _) _
  go_loopw [9] (fun s6 wr => ∃ (i : Nat) (av : Option Addr) (cv : Nat), s6 = .int .i64 i ∧ i ≤ n ∧ Hid (Blk wr w2.heap.size #[.int .i64 zt, .slice av i cv] 24) ∧ Hid (OwnSts wr w2.heap.size (.slice av i cv) (TT i)) ∧ Hid (Below w2.heap.size w2 wr) ∧ Hid (∀ q, q < i → ∀ a ∈ (el lt q).2, (pshA fs q a).2.2.1 ≤ 1000000000)) (fun s6 _ => n - (intOf s6).toNat)
  case atStart => exact ⟨0, _, _, by go_num, Nat.zero_le _, HMM, HOM, HBM, fun q hq => absurd hq (Nat.not_lt_zero _)⟩
  case round =>
   obtain ⟨i, av, cv, rfl, hi, hm, ho, hb, hsm⟩ := hrel
   clear HOM HMM HBM
   have KSr := hidP (KS.out.below hb.out KS.out.lt)
   have d1 := KSr.out.cell 1 (v := .slice aT n cT) rfl
   have HBw := hidP (HB2.out.trans (hb.out.mono HB2.out.size))
   have hsr := hb.out.size
   have hmlt := hm.out.lt
   have hkl := KSr.out.lt
   by_cases hin : i < n
   ·have hin' : (i : Int) < (n : Int) := by omega
    have hi0 : (0 : Int) ≤ (i : Int) := by omega
    obtain ⟨b, off, va, rfl, hbl, y0, y1, gA⟩ := HC.out i hin
    obtain ⟨bF, oF, haF, hbF, hcF⟩ := HNP.out (by omega)
    subst haF
    have HCF := hidP hcF
    clear hcF
    have hfin := HFB.out i hin
    obtain ⟨hal, hto⟩ := HST.out i hin
    have HTi := hidP (HTS.out i)
    have HLn := hidP (HTL.out i)
    obtain ⟨a2, cap2, hva, hvx⟩ := gA.get
    subst hva
    have HGA : Hid (∀ W, Below w1.heap.size w1 W → Arcs W (.slice a2 (el lt i).2.length cap2) (el lt i).2) := fun W hW => gA.later hW (Nat.le_refl _)
    have z0 := (HBw.out.cell (p := ⟨b, off + i * 2, none⟩) hbl).trans y0
    have y9 := (hb.out.cell (p := ⟨bF, oF + i, none⟩) hbF).trans (HCF.out i hin)
    obtain ⟨fq, hfq⟩ : ∃ fq, el fs i = fq := ⟨_, rfl⟩
    have hvq := HVS.out i hin
    rw [hfq] at y9 hvq
    have HFQ := hidP hfq
    have HOVi := hidP (HOV.out i hin)
    have HTO2 := hidP hto
    have HPF : Hid (∀ f, pshF fs i f = if f = 1000000001 then 1000000001 else f - fq) := fun f => by unfold pshF; rw [hfq]
    clear gA hto hvx hfq
    generalize (el lt i).1 = fin at *
    generalize hAR : (el lt i).2 = ar at *
    have HAR := hidP hAR
    clear hAR
    generalize TT i = Lst at *
    obtain ⟨Ln, hLn⟩ : ∃ Ln, i = Ln := ⟨_, rfl⟩
    rw [hLn] at HLn hm ho
    have HLi := hidP hLn
    clear hLn
    obtain ⟨n2, hn2⟩ : ∃ n2, ar.length = n2 := ⟨_, rfl⟩
    have HN2 := hidP hn2
    rw [hn2] at y1 HGA hal
    obtain ⟨NL, hNL⟩ : ∃ NL : Nat → List Ar, ∀ j, (ar.take j).map (pshA fs i) = NL j := ⟨_, fun _ => rfl⟩
    have HL0 : Hid (NL 0 = []) := by show _ = _; rw [← hNL]; simp
    have HLS : Hid (∀ j, j < n2 → NL (j + 1) = NL j ++ [pshA fs i (el ar j)]) := fun j hj => by rw [← hNL, ← hNL, pshTake (by omega)]
    have HLL : Hid (∀ j, j ≤ n2 → (NL j).length = j) := fun j hj => by rw [← hNL]; simp; omega
    have HLN : Hid (NL n2 = ar.map (pshA fs i)) := by show _ = _; rw [← hNL, ← hn2, List.take_length]
    clear hn2 hNL
    obtain ⟨ff, hff⟩ : ∃ ff, pshF fs i fin = ff := ⟨_, rfl⟩
    have HFF : Hid (ff = if fin = 1000000001 then 1000000001 else fin - fq) := hff.symm.trans (HPF.out fin)
    rw [hff] at HTi
    have d2 := (KSr.out.alloc (.cells #[.int .i64 1000000001, .slice none 0 0] 33)).cell 1 (v := .slice (some ⟨b, off, none⟩) n cT) rfl
    have z3 := ((HBw.out.alloc HBw.out.size (.cells #[.int .i64 1000000001, .slice none 0 0] 33)).cell (p := ⟨b, off + i * 2, none⟩) hbl).trans y0
    have y8 := ((hb.out.alloc hb.out.size (.cells #[.int .i64 1000000001, .slice none 0 0] 33)).cell (p := ⟨bF, oF + i, none⟩) hbF).trans (HCF.out i hin)
    rw [HFQ.out] at y8
    clear hff z0 y0
    obtain ⟨wq, rfl⟩ : ∃ wq, wq = wr := ⟨_, rfl⟩
    go_upto_if 49 with fail
    go_cut [] (fun wx => Hid (Blk wx wq.heap.size #[.int .i64 ff, .slice none 0 0] 33) ∧ Hid (Below wq.heap.size wq wx))
    case first =>
     have HSB := hidP (Blk.made wq #[.int .i64 1000000001, .slice none 0 0] 33)
     have HBI : Hid (Below wq.heap.size wq (wq.alloc (.cells #[.int .i64 1000000001, .slice none 0 0] 33))) := (Below.refl _ _).alloc (Nat.le_refl _) _
     by_cases hfn : fin = 1000000001
     ·have hf2 : ff = 1000000001 := by rw [HFF.out, if_pos hfn]
      subst hf2
      subst hfn
      go_wp2
      go_meet
      case rel => exact ⟨HSB, HBI⟩
     ·have hf2 : ff = fin - fq := by rw [HFF.out, if_neg hfn]
      have hfb : 0 ≤ fin ∧ fin ≤ 1000000000 := by simp [finB, inB] at hfin; omega
      have hwf : IntKind.i64.wrap (fin - fq) = fin - fq := wrapI (by omega) (by omega)
      subst hf2
      have HS : HeldFs (w1.heap.size) (.slice (some ⟨b, off, none⟩) n cT) b (off + i * 2) fin bF (oF + i) fq (wq.alloc (.cells #[.int .i64 1000000001, .slice none 0 0] 33)).drew := ⟨d2, z3, y8⟩
      have e0 := HSB.out.cell 0 (v := .int .i64 1000000001) rfl
      have e1 := HSB.out.fz 0
      go_wp2
      refine region_anyL (HeldFs (w1.heap.size) (.slice (some ⟨b, off, none⟩) n cT) b (off + i * 2) fin bF (oF + i) fq) 12 (by kernel_rfl) ?_
      refine anyL_tk (i := 0) (v := ?v0_1) aZ0 (by kernel_rfl) ?y0_1 HS ?r0_1
      case y0_1 => intro wx hx; obtain ⟨h0, h1, h2⟩ := hx; go_simp; try (with_reducible rfl)
      simp only [Act.put, List.setIfInBounds_toArray, List.set_cons_zero, List.set_cons_succ]
      refine anyL_tk (i := 1) (v := ?v1_2) aZ1 (by kernel_rfl) ?y1_2 HS ?r1_2
      case y1_2 => intro wx hx; obtain ⟨h0, h1, h2⟩ := hx; go_simp; try (with_reducible rfl)
      simp only [Act.put, List.setIfInBounds_toArray, List.set_cons_zero, List.set_cons_succ]
      refine anyL_tk (i := 2) (v := ?v2_3) aZ2 (by kernel_rfl) ?y2_3 HS ?r2_3
      case y2_3 => intro wx hx; obtain ⟨h0, h1, h2⟩ := hx; go_simp; try (with_reducible rfl)
      simp only [Act.put, List.setIfInBounds_toArray, List.set_cons_zero, List.set_cons_succ]
      refine anyL_tk (i := 3) (v := ?v3_4) aZ3 (by kernel_rfl) ?y3_4 HS ?r3_4
      case y3_4 => intro wx hx; obtain ⟨h0, h1, h2⟩ := hx; go_simp; try (with_reducible rfl)
      simp only [Act.put, List.setIfInBounds_toArray, List.set_cons_zero, List.set_cons_succ]
      refine anyL_tk (i := 4) (v := ?v4_5) aZ4 (by kernel_rfl) ?y4_5 HS ?r4_5
      case y4_5 => intro wx hx; obtain ⟨h0, h1, h2⟩ := hx; go_simp; try (with_reducible rfl)
      simp only [Act.put, List.setIfInBounds_toArray, List.set_cons_zero, List.set_cons_succ]
      refine anyL_tk (i := 5) (v := ?v5_6) aZ5 (by kernel_rfl) ?y5_6 HS ?r5_6
      case y5_6 => intro wx hx; obtain ⟨h0, h1, h2⟩ := hx; go_simp; try (with_reducible rfl)
      simp only [Act.put, List.setIfInBounds_toArray, List.set_cons_zero, List.set_cons_succ]
      refine anyL_tk (i := 6) (v := ?v6_7) aZ6 (by kernel_rfl) ?y6_7 HS ?r6_7
      case y6_7 => intro wx hx; obtain ⟨h0, h1, h2⟩ := hx; go_simp; try (with_reducible rfl)
      simp only [Act.put, List.setIfInBounds_toArray, List.set_cons_zero, List.set_cons_succ]
      refine anyL_tk (i := 7) (v := ?v7_8) aZ7 (by kernel_rfl) ?y7_8 HS ?r7_8
      case y7_8 => intro wx hx; obtain ⟨h0, h1, h2⟩ := hx; go_simp; try (with_reducible rfl)
      simp only [Act.put, List.setIfInBounds_toArray, List.set_cons_zero, List.set_cons_succ]
      refine anyL_tk (i := 8) (v := ?v8_9) aZ8 (by kernel_rfl) ?y8_9 HS ?r8_9
      case y8_9 => intro wx hx; obtain ⟨h0, h1, h2⟩ := hx; go_simp; try (with_reducible rfl)
      simp only [Act.put, List.setIfInBounds_toArray, List.set_cons_zero, List.set_cons_succ]
      refine anyL_tk (i := 9) (v := ?v9_10) aZ9 (by kernel_rfl) ?y9_10 HS ?r9_10
      case y9_10 => intro wx hx; obtain ⟨h0, h1, h2⟩ := hx; go_simp; try (with_reducible rfl)
      simp only [Act.put, List.setIfInBounds_toArray, List.set_cons_zero, List.set_cons_succ]
      refine anyL_tk (i := 10) (v := ?v10_11) aZ10 (by kernel_rfl) ?y10_11 HS ?r10_11
      case y10_11 => intro wx hx; obtain ⟨h0, h1, h2⟩ := hx; go_simp; try (with_reducible rfl)
      simp only [Act.put, List.setIfInBounds_toArray, List.set_cons_zero, List.set_cons_succ]
      refine anyL_tk (i := 11) (v := ?v11_12) aZ11 (by kernel_rfl) ?y11_12 HS ?r11_12
      case y11_12 => intro wx hx; obtain ⟨h0, h1, h2⟩ := hx; go_simp; try (with_reducible rfl)
      simp only [Act.put, List.setIfInBounds_toArray, List.set_cons_zero, List.set_cons_succ]
      refine anyL_one (i := 12) aZ12 (by kernel_rfl) rfl (fun K hK => ?_)
      go_simp
      refine hK _ _ (.inl rfl) (anyL_done (by kernel_rfl) (NoPanic.normal ?_))
      try simp only [Act.put, List.setIfInBounds_toArray, List.set_cons_zero, List.set_cons_succ]
      clear HS
      try go_wp2
      go_meet
      case rel => exact ⟨Blk.drew (Blk.made wq #[.int .i64 (fin - fq), .slice none 0 0] 33), ((Below.refl _ _).alloc (Nat.le_refl _) _).drew⟩
    case rest =>
     obtain ⟨HSB, HBI⟩ := hcut
     have HOA : Hid (OwnArcs wc (wq.heap.size + 1) (.slice none 0 0) (NL 0)) := by rw [HL0.out]; exact OwnArcs.nil _ _
     have HBc := hidP (HBw.out.trans (HBI.out.mono HBw.out.size))
     have d3 := (KSr.out.below HBI.out KSr.out.lt).cell 1 (v := .slice (some ⟨b, off, none⟩) n cT) rfl
     have z4 := (HBc.out.cell (p := ⟨b, off + i * 2 + 1, none⟩) hbl).trans y1
     clear d1 d2 z3 y8 y9
     go_wp2
     go_loopw [12] (fun s6 wr => ∃ (j : Nat) (aj : Option Addr) (cj : Nat), s6 = .int .i64 j ∧ j ≤ n2 ∧ Hid (Blk wr wq.heap.size #[.int .i64 ff, .slice aj j cj] 33) ∧ Hid (OwnArcs wr (wq.heap.size + 1) (.slice aj j cj) (NL j)) ∧ Hid (Below wq.heap.size wq wr) ∧ Hid (∀ k, k < j → (pshA fs i (el ar k)).2.2.1 ≤ 1000000000)) (fun s6 _ => n2 - (intOf s6).toNat)
     case atStart => exact ⟨0, _, _, by go_num, Nat.zero_le _, HSB, HOA, HBI, fun k hk => absurd hk (Nat.not_lt_zero _)⟩
     case round =>
      clear HSB HOA HBI d3 z4 HBc
      obtain ⟨j, aj, cj, rfl, hj, hs, hoa, hbi, hsk⟩ := hrel
      have hsl := hs.out.lt
      have hsz := hbi.out.size
      have HBx := hidP (HBw.out.trans (hbi.out.mono HBw.out.size))
      have HBy := hidP (hb.out.trans (hbi.out.mono hb.out.size))
      have KRr := hidP (KR.out.below HBy.out (by have := KR.out.lt; omega))
      by_cases hjn : j < n2
      ·have hjn' : (j : Int) < (n2 : Int) := by omega
       have hj0 : (0 : Int) ≤ (j : Int) := by omega
       obtain ⟨b3, off3, ha3, hb3, x0, x1, x2, x3⟩ := arcs_at (HGA.out w1 (Below.refl _ _)) (j := j) (by rw [HN2.out]; exact hjn)
       subst ha3
       have hmem : el ar j ∈ ar := el_mem (by rw [HN2.out]; exact hjn)
       have HLj := hidP (HLS.out j hjn)
       have HLj0 := hidP (HLL.out j hj)
       obtain ⟨k1, k2, t, k3, k4⟩ := HTO2.out _ hmem
       have HOVj := hidP (HOVi.out _ hmem)
       have HSKj : Hid ((pshA fs i (el ar j)).2.2.1 ≤ 1000000000 → ∀ k, k < j + 1 → (pshA fs i (el ar k)).2.2.1 ≤ 1000000000) := fun h k hk => by
        by_cases e : k = j
        ·rw [e]; exact h
        ·exact hsk.out k (by omega)
       clear hmem
       generalize el ar j = p at *
       obtain ⟨p0, p1, p2, p3⟩ := p
       simp only at x0 x1 x2 x3 k1 k2 k3
       subst k3
       obtain ⟨ft, hft⟩ : ∃ ft, el fs t = ft := ⟨_, rfl⟩
       have hvt := HVS.out t k4
       have HPA : Hid (pshA fs i (p0, p1, p2, (t : Int)) = (p0, p1, p2 + ft - fq, (t : Int))) := by show _ = _; unfold pshA; simp only [Int.toNat_natCast]; rw [hft, HFQ.out]
       have y7 := (HBy.out.cell (p := ⟨bF, oF + i, none⟩) hbF).trans (HCF.out i hin)
       have y6 := (HBy.out.cell (p := ⟨bF, oF + t, none⟩) hbF).trans (HCF.out t k4)
       rw [HFQ.out] at y7
       rw [hft] at y6 hvt
       rw [HPA.out] at HLj HOVj HSKj
       simp only at HOVj HSKj
       have HX : Hid (∀ W, Below w1.heap.size w1 W → W.cell? ⟨b3, off3 + j * 4, none⟩ = some (.int .i64 p0) ∧ W.cell? ⟨b3, off3 + j * 4 + 1, none⟩ = some (.int .i64 p1) ∧ W.cell? ⟨b3, off3 + j * 4 + 2, none⟩ = some (.int .i64 p2) ∧ W.cell? ⟨b3, off3 + j * 4 + 3, none⟩ = some (.int .i64 (t : Int))) := fun W hW => ⟨(hW.cell (p := ⟨b3, off3 + j * 4, none⟩) hb3).trans x0, (hW.cell (p := ⟨b3, off3 + j * 4 + 1, none⟩) hb3).trans x1, (hW.cell (p := ⟨b3, off3 + j * 4 + 2, none⟩) hb3).trans x2, (hW.cell (p := ⟨b3, off3 + j * 4 + 3, none⟩) hb3).trans x3⟩
       obtain ⟨x0, x1, x2, x3⟩ := HX.out _ HBx.out
       have t1 : (0 : Int) ≤ (t : Int) := Int.natCast_nonneg _
       have t2 : (t : Int) < (n : Int) := by omega
       have hw1 : IntKind.i64.wrap (p2 + ft) = p2 + ft := wrapI (by omega) (by omega)
       have hw2 : IntKind.i64.wrap (p2 + ft - fq) = p2 + ft - fq := wrapI (by omega) (by omega)
       generalize NL j = cu at *
       obtain ⟨Lj, hLj⟩ : ∃ Lj, j = Lj := ⟨_, rfl⟩
       rw [hLj] at HLj0 hs hoa
       have HLJ := hidP hLj
       clear hLj hft HPA
       obtain ⟨w3, hw3⟩ : ∃ w3, w3 = wr := ⟨_, rfl⟩
       subst hw3
       go_wp2
       go_quiet (fail)
       have hs' := hidP (hs.out.drewN nq)
       have hoa' : Hid (OwnArcs (w3.drewN nq) (wq.heap.size + 1) (.slice aj Lj cj) cu) := hoa
       have hbi' : Hid (Below wq.heap.size wq (w3.drewN nq)) := ⟨hbi.out.os, hbi.out.tape, hbi.out.output, hbi.out.size, hbi.out.block⟩
       have KRr' := hidP (KRr.out.drewN nq)
       have HBx' : Hid (Below w1.heap.size w1 (w3.drewN nq)) := ⟨HBx.out.os, HBx.out.tape, HBx.out.output, HBx.out.size, HBx.out.block⟩
       have hsz' : wq.heap.size ≤ (w3.drewN nq).heap.size := hsz
       clear hs hoa hbi KRr HBx HBy x0 x1 x2 x3 y6 y7 hsz hsl
       generalize w3.drewN nq = w4 at *
       by_cases hov : (1000000000 : Int) < p2 + ft - fq
       ·have HA4 := hidP (HOVj.out hov)
        have q0 := KRr'.out.cell 0 (v := .int .i64 0) rfl
        have q1 := KRr'.out.cell 1 (v := .slice none 0 0) rfl
        have g0 := KRr'.out.fz 0
        have g1 := KRr'.out.fz 1
        have HB0r := hidP (HB1.out.trans (HBx'.out.mono HB1.out.size))
        clear HSKj HLj
        go_wp2
        exact bodyPost_ret (v := .tuple #[.agg #[.int .i64 0, .slice none 0 0], .int .i64 0, .int .i64 4]) (by simp [results, Tryz.results14, go_sem, *]) rfl ⟨_, _, _, _, rfl, HA4.out, mach_zeroR _, by (have h9 := HB0r.out); go_grown⟩
       ·have HSK2 := hidP (HSKj.out (by omega))
        obtain ⟨wt, hwt⟩ : ∃ wt, p2 + ft - fq = wt := ⟨_, rfl⟩
        rw [hwt] at HLj
        obtain ⟨a4, c4, w5, hr4, ho4, hb4⟩ := OwnArcs.push (W := w4.drew) (base := wq.heap.size + 1) (v := .slice aj Lj cj) (ar := cu) hoa'.out (p0, p1, wt, (t : Int)) (by have := HLj0.out; have := HLJ.out; omega) (by show _ ≤ w4.heap.size; have := hs'.out.lt; omega)
        rw [HLj0.out] at hr4 ho4
        have R4 := hidP hr4
        have HO4 := hidP ho4
        have HD : Below wq.heap.size wq w4.drew := hbi'.out.drew
        have HS4 := hidP (Blk.below (w := w4.drew) hs'.out hb4 (Nat.lt_succ_self _))
        have HB4 := hidP (HD.trans (hb4.mono (Nat.le_succ _)))
        have HSD : HeldPs wq.heap.size (.slice aj Lj cj) b3 (off3 + j * 4) p0 p1 p2 (t : Int) w4.drew := ⟨hs'.out.cell 1 rfl, HX.out _ HBx'.out.drew⟩
        have HSA : HeldPs wq.heap.size (.slice aj Lj cj) b3 (off3 + j * 4) p0 p1 p2 (t : Int) (w4.drew.alloc (.cells #[.int .i64 p0, .int .i64 p1, .int .i64 wt, .int .i64 (t : Int)] 48)) := ⟨(Blk.alloc (w := w4.drew) hs'.out _).cell 1 rfl, HX.out _ (HBx'.out.drew.alloc HBx'.out.size _)⟩
        have HSG : HeldPs wq.heap.size (.slice aj Lj cj) b3 (off3 + j * 4) p0 p1 p2 (t : Int) w5 := ⟨HS4.out.cell 1 rfl, HX.out _ (HBw.out.trans (HB4.out.mono HBw.out.size))⟩
        have s4 := HS4.out.cell 1 (v := .slice aj Lj cj) rfl
        have g4 := HS4.out.fz 1
        clear hr4 ho4 hb4 HD
        go_wp2
        refine region_anyL (HeldPs wq.heap.size (.slice aj Lj cj) b3 (off3 + j * 4) p0 p1 p2 (t : Int)) 22 (by kernel_rfl) ?_
        refine anyL_tk (i := 0) (v := ?v0_13) aZ0 (by kernel_rfl) ?y0_13 HSD ?r0_13
        case y0_13 => intro wx hx; obtain ⟨h4, h0, h1, h2, h3⟩ := hx; go_simp; try (with_reducible rfl)
        simp only [Act.put, List.setIfInBounds_toArray, List.set_cons_zero, List.set_cons_succ]
        refine anyL_tk (i := 1) (v := ?v1_14) aZ1 (by kernel_rfl) ?y1_14 HSD ?r1_14
        case y1_14 => intro wx hx; obtain ⟨h4, h0, h1, h2, h3⟩ := hx; go_simp; try (with_reducible rfl)
        simp only [Act.put, List.setIfInBounds_toArray, List.set_cons_zero, List.set_cons_succ]
        refine anyL_tk (i := 2) (v := ?v2_15) aZ2 (by kernel_rfl) ?y2_15 HSD ?r2_15
        case y2_15 => intro wx hx; obtain ⟨h4, h0, h1, h2, h3⟩ := hx; go_simp; try (with_reducible rfl)
        simp only [Act.put, List.setIfInBounds_toArray, List.set_cons_zero, List.set_cons_succ]
        refine anyL_tk (i := 3) (v := ?v3_16) aZ3 (by kernel_rfl) ?y3_16 HSD ?r3_16
        case y3_16 => intro wx hx; obtain ⟨h4, h0, h1, h2, h3⟩ := hx; go_simp; try (with_reducible rfl)
        simp only [Act.put, List.setIfInBounds_toArray, List.set_cons_zero, List.set_cons_succ]
        refine anyL_tk (i := 4) (v := ?v4_17) aZ4 (by kernel_rfl) ?y4_17 HSD ?r4_17
        case y4_17 => intro wx hx; obtain ⟨h4, h0, h1, h2, h3⟩ := hx; go_simp; try (with_reducible rfl)
        simp only [Act.put, List.setIfInBounds_toArray, List.set_cons_zero, List.set_cons_succ]
        refine anyL_tk (i := 5) (v := ?v5_18) aZ5 (by kernel_rfl) ?y5_18 HSD ?r5_18
        case y5_18 => intro wx hx; obtain ⟨h4, h0, h1, h2, h3⟩ := hx; go_simp; try (with_reducible rfl)
        simp only [Act.put, List.setIfInBounds_toArray, List.set_cons_zero, List.set_cons_succ]
        refine anyL_tk (i := 6) (v := ?v6_19) aZ6 (by kernel_rfl) ?y6_19 HSD ?r6_19
        case y6_19 => intro wx hx; obtain ⟨h4, h0, h1, h2, h3⟩ := hx; go_simp; try (with_reducible rfl)
        simp only [Act.put, List.setIfInBounds_toArray, List.set_cons_zero, List.set_cons_succ]
        refine anyL_tk (i := 7) (v := ?v7_20) aZ7 (by kernel_rfl) ?y7_20 HSD ?r7_20
        case y7_20 => intro wx hx; obtain ⟨h4, h0, h1, h2, h3⟩ := hx; go_simp; try (with_reducible rfl)
        simp only [Act.put, List.setIfInBounds_toArray, List.set_cons_zero, List.set_cons_succ]
        refine anyL_tk (i := 8) (v := ?v8_21) aZ8 (by kernel_rfl) ?y8_21 HSD ?r8_21
        case y8_21 => intro wx hx; obtain ⟨h4, h0, h1, h2, h3⟩ := hx; go_simp; try (with_reducible rfl)
        simp only [Act.put, List.setIfInBounds_toArray, List.set_cons_zero, List.set_cons_succ]
        refine anyL_tk (i := 9) (v := ?v9_22) aZ9 (by kernel_rfl) ?y9_22 HSD ?r9_22
        case y9_22 => intro wx hx; obtain ⟨h4, h0, h1, h2, h3⟩ := hx; go_simp; try (with_reducible rfl)
        simp only [Act.put, List.setIfInBounds_toArray, List.set_cons_zero, List.set_cons_succ]
        refine anyL_tk (i := 10) (v := ?v10_23) aZ10 (by kernel_rfl) ?y10_23 HSD ?r10_23
        case y10_23 => intro wx hx; obtain ⟨h4, h0, h1, h2, h3⟩ := hx; go_simp; try (with_reducible rfl)
        simp only [Act.put, List.setIfInBounds_toArray, List.set_cons_zero, List.set_cons_succ]
        refine anyL_tk (i := 11) (v := ?v11_24) aZ11 (by kernel_rfl) ?y11_24 HSD ?r11_24
        case y11_24 => intro wx hx; obtain ⟨h4, h0, h1, h2, h3⟩ := hx; go_simp; try (with_reducible rfl)
        simp only [Act.put, List.setIfInBounds_toArray, List.set_cons_zero, List.set_cons_succ]
        refine anyL_tk (i := 12) (v := ?v12_25) aZ12 (by kernel_rfl) ?y12_25 HSD ?r12_25
        case y12_25 => intro wx hx; obtain ⟨h4, h0, h1, h2, h3⟩ := hx; go_simp; try (with_reducible rfl)
        simp only [Act.put, List.setIfInBounds_toArray, List.set_cons_zero, List.set_cons_succ]
        refine anyL_tk (i := 13) (v := ?v13_26) aZ13 (by kernel_rfl) ?y13_26 HSD ?r13_26
        case y13_26 => intro wx hx; obtain ⟨h4, h0, h1, h2, h3⟩ := hx; go_simp; try (with_reducible rfl)
        simp only [Act.put, List.setIfInBounds_toArray, List.set_cons_zero, List.set_cons_succ]
        refine anyL_tk (i := 14) (v := ?v14_27) aZ14 (by kernel_rfl) ?y14_27 HSD ?r14_27
        case y14_27 => intro wx hx; obtain ⟨h4, h0, h1, h2, h3⟩ := hx; go_simp; try (with_reducible rfl)
        simp only [Act.put, List.setIfInBounds_toArray, List.set_cons_zero, List.set_cons_succ]
        refine anyL_tk (i := 15) (v := ?v15_28) aZ15 (by kernel_rfl) ?y15_28 HSD ?r15_28
        case y15_28 => intro wx hx; obtain ⟨h4, h0, h1, h2, h3⟩ := hx; go_simp; try (with_reducible rfl)
        simp only [Act.put, List.setIfInBounds_toArray, List.set_cons_zero, List.set_cons_succ]
        refine anyL_tk (i := 16) (v := ?v16_29) aZ16 (by kernel_rfl) ?y16_29 HSD ?r16_29
        case y16_29 => intro wx hx; obtain ⟨h4, h0, h1, h2, h3⟩ := hx; go_simp; try (with_reducible rfl)
        simp only [Act.put, List.setIfInBounds_toArray, List.set_cons_zero, List.set_cons_succ]
        refine anyL_tk (i := 17) (v := ?v17_30) aZ17 (by kernel_rfl) ?y17_30 HSD ?r17_30
        case y17_30 => intro wx hx; obtain ⟨h4, h0, h1, h2, h3⟩ := hx; go_simp; try (with_reducible rfl)
        simp only [Act.put, List.setIfInBounds_toArray, List.set_cons_zero, List.set_cons_succ]
        refine anyL_tk (i := 18) (v := ?v18_31) aZ18 (by kernel_rfl) ?y18_31 HSD ?r18_31
        case y18_31 => intro wx hx; obtain ⟨h4, h0, h1, h2, h3⟩ := hx; go_simp; try (with_reducible rfl)
        simp only [Act.put, List.setIfInBounds_toArray, List.set_cons_zero, List.set_cons_succ]
        refine anyL_one (i := 19) aZ19 (by kernel_rfl) rfl (fun K hK => ?_)
        go_simp
        refine hK _ _ (.inr HSA) ?_
        try simp only [Act.put, List.setIfInBounds_toArray, List.set_cons_zero, List.set_cons_succ]
        refine anyL_one (i := 20) aZ20 (by kernel_rfl) rfl (fun K hK => ?_)
        refine wp_append_run (.tmp 97) (.tmp 115) 31 rfl rfl rfl R4.out ?_
        refine hK _ _ (.inr HSG) ?_
        try simp only [Act.put, List.setIfInBounds_toArray, List.set_cons_zero, List.set_cons_succ]
        refine anyL_one (i := 21) aZ21 (by kernel_rfl) rfl (fun K hK => ?_)
        go_simp
        refine hK _ _ (.inr HSG) ?_
        try simp only [Act.put, List.setIfInBounds_toArray, List.set_cons_zero, List.set_cons_succ]
        refine anyL_one (i := 22) aZ22 (by kernel_rfl) rfl (fun K hK => ?_)
        go_simp
        refine hK _ _ (.inl rfl) (anyL_done (by kernel_rfl) (NoPanic.normal ?_))
        try simp only [Act.put, List.setIfInBounds_toArray, List.set_cons_zero, List.set_cons_succ]
        clear HSD HSA HSG
        go_wp2
        go_roundw
        case rel => have hLj := HLJ.out; subst hLj; exact ⟨j + 1, a4, c4, by go_num, by omega, HS4.out.set 1 _, by rw [HLj.out]; exact ownsRow_setCell_below HO4.out (a := ⟨wq.heap.size, 1, none⟩) (Nat.lt_succ_self _) _, HB4.out.setCell (p := ⟨wq.heap.size, 1, none⟩) (Nat.le_refl _) _, HSK2⟩
        case measure => simp [intOf]; omega
      ·have hjn' : ¬ (j : Int) < (n2 : Int) := by omega
       obtain rfl : n2 = j := by omega
       rw [HLN.out] at hoa
       have hs1 := hs.out.cell 0 (v := .int .i64 ff) rfl
       have hs2 := hs.out.cell 1 (v := .slice aj n2 cj) rfl
       have hmq := hm.out.below hbi.out hmlt
       have hm1 := hmq.cell 1 (v := .slice av Ln cv) rfl
       have HSM : Hid (∀ q, q < i + 1 → ∀ a ∈ (el lt q).2, (pshA fs q a).2.2.1 ≤ 1000000000) := fun q hq a ha => by
        by_cases e : q = i
        ·subst e
         rw [HAR.out] at ha
         obtain ⟨k, hk, rfl⟩ := mem_el ha
         exact hsk.out k (by rw [HN2.out] at hk; exact hk)
        ·exact hsm.out q (by omega) a ha
       obtain ⟨a6, c6, w6, hr6, hM6, hb6, hO7, hM7, hb7⟩ := push_step (w5 := wr) (B := w2.heap.size) (Mb := w2.heap.size) (ff, ar.map (pshA fs i)) (ho.out.laterB hbi.out) (hoa.out.mono (by omega)) hmq (by omega) (by omega) (by have := HLn.out; have := HLi.out; omega)
       rw [HLn.out] at hr6 hO7 hM7 hb7
       simp only at hr6
       have R6 := hidP hr6
       have f6 := hM6.fz 1
       have c6' := hM6.cell 1 (v := .slice av Ln cv) rfl
       have HO7 := hidP hO7
       have HM7 := hidP hM7
       have HB7 := hidP ((hb.out.trans (hbi.out.mono hsr)).trans hb7)
       clear hr6 hM6 hb6 hO7 hM7 hb7
       go_wp2_with (first
        | (at_builtin; refine wpListAppendRun rfl _ _ 22 rfl rfl rfl R6.out ?_; clear R6))
       go_roundw
       case rel => have hLn := HLi.out; subst hLn; exact ⟨i + 1, a6, c6, by go_num, by omega, HM7, by rw [HTi.out]; exact HO7, HB7, HSM⟩
       case measure => simp [intOf]; omega
   ·have hin' : ¬ (i : Int) < (n : Int) := by omega
    obtain rfl : i = n := by omega
    rw [HTN.out] at ho
    have m0 := hm.out.cell 0 (v := .int .i64 zt) rfl
    have m1 := hm.out.cell 1 (v := .slice av i cv) rfl
    have d0 := KSr.out.cell 0 (v := .int .i64 zt) rfl
    have KRr := hidP (KR.out.below hb.out (by have := KR.out.lt; omega))
    have q0 := KRr.out.cell 0 (v := .int .i64 0) rfl
    have q1 := KRr.out.cell 1 (v := .slice none 0 0) rfl
    have g0 := KRr.out.fz 0
    have g1 := KRr.out.fz 1
    have HAN := hidP (HGO.out (fun q hq => hsm.out q hq))
    have HB0r := hidP (HB1.out.trans (HBw.out.mono HB1.out.size))
    have HKR : w.heap.size + 1 < w2.heap.size := by have := KR.out.lt; omega
    have HLEN : Hid ((pshL fs lt).length = i) := by show _ = _; rw [psh_length]; exact HN.out
    by_cases hzt : zt < 0
    ·have hT : pshT fs (zt, lt) = 0 := by unfold pshT; rw [if_pos hzt]
     rw [hT] at HAN
     go_wp2
     exact bodyPost_ret (v := .tuple #[.agg #[.int .i64 zt, .slice av i cv], .int .i64 0, .int .i64 0]) (by simp [results, Tryz.results14, go_sem, *]) rfl ⟨_, _, _, _, rfl, HAN.out, ⟨_, rfl, ((ho.out.setCell (a := ⟨w.heap.size + 1, 0, none⟩) HKR _).setCell (a := ⟨w.heap.size + 1, 1, none⟩) HKR _).sts⟩, by (have h9 := HB0r.out); go_grown⟩
    ·obtain ⟨zn, hzn⟩ : ∃ zn : Nat, zt = (zn : Int) := ⟨zt.toNat, by omega⟩
     have hzl : zn < i := by have := HN.out; omega
     obtain ⟨bF, oF, haF, hbF, hcF⟩ := HNP.out (by omega)
     subst haF
     have y5 := (hb.out.cell (p := ⟨bF, oF + zn, none⟩) hbF).trans (hcF zn hzl)
     obtain ⟨ft, hft⟩ : ∃ ft, el fs zn = ft := ⟨_, rfl⟩
     rw [hft] at y5
     have hT : pshT fs (zt, lt) = ft := by unfold pshT; rw [if_neg hzt]; simp only; rw [hzn, Int.toNat_natCast]; exact hft
     rw [hT] at HAN
     have k1 : (0 : Int) ≤ zt := by omega
     have k2 : zt < (i : Int) := by omega
     have k3 : zt.toNat = zn := by omega
     have HS : HeldEs w2.heap.size zt (.slice av i cv) w1.heap.size bF (oF + zn) ft wr.drew := ⟨m0, m1, d0, y5⟩
     have HS0 : HeldEs w2.heap.size zt (.slice av i cv) w1.heap.size bF (oF + zn) ft wr := ⟨m0, m1, d0, y5⟩
     have HSB : HeldEs w2.heap.size zt (.slice av i cv) w1.heap.size bF (oF + zn) ft ((wr.setCell ⟨w.heap.size + 1, 0, none⟩ (.int .i64 zt)).setCell ⟨w.heap.size + 1, 1, none⟩ (.slice av i cv)).drew := held_set (by omega) (by omega) hzn KRr.out HS0
     clear hcF hft hzn HS0 hT
     go_wp2
     refine region_anyL (HeldEs w2.heap.size zt (.slice av i cv) w1.heap.size bF (oF + zn) ft) 8 (by kernel_rfl) ?_
     refine anyL_tk (i := 0) (v := ?v0_32) aZ0 (by kernel_rfl) ?y0_32 HS ?r0_32
     case y0_32 => intro wx hx; obtain ⟨h0, h1, h2, h3⟩ := hx; go_simp; try (with_reducible rfl)
     simp only [Act.put, List.setIfInBounds_toArray, List.set_cons_zero, List.set_cons_succ]
     refine anyL_tk (i := 1) (v := ?v1_33) aZ1 (by kernel_rfl) ?y1_33 HS ?r1_33
     case y1_33 => intro wx hx; obtain ⟨h0, h1, h2, h3⟩ := hx; go_simp; try (with_reducible rfl)
     simp only [Act.put, List.setIfInBounds_toArray, List.set_cons_zero, List.set_cons_succ]
     refine anyL_tk (i := 2) (v := ?v2_34) aZ2 (by kernel_rfl) ?y2_34 HS ?r2_34
     case y2_34 => intro wx hx; obtain ⟨h0, h1, h2, h3⟩ := hx; go_simp; try (with_reducible rfl)
     simp only [Act.put, List.setIfInBounds_toArray, List.set_cons_zero, List.set_cons_succ]
     refine anyL_tk (i := 3) (v := ?v3_35) aZ3 (by kernel_rfl) ?y3_35 HS ?r3_35
     case y3_35 => intro wx hx; obtain ⟨h0, h1, h2, h3⟩ := hx; go_simp; try (with_reducible rfl)
     simp only [Act.put, List.setIfInBounds_toArray, List.set_cons_zero, List.set_cons_succ]
     refine anyL_tk (i := 4) (v := ?v4_36) aZ4 (by kernel_rfl) ?y4_36 HS ?r4_36
     case y4_36 => intro wx hx; obtain ⟨h0, h1, h2, h3⟩ := hx; go_simp; try (with_reducible rfl)
     simp only [Act.put, List.setIfInBounds_toArray, List.set_cons_zero, List.set_cons_succ]
     refine anyL_tk (i := 5) (v := ?v5_37) aZ5 (by kernel_rfl) ?y5_37 HS ?r5_37
     case y5_37 => intro wx hx; obtain ⟨h0, h1, h2, h3⟩ := hx; go_simp; try (with_reducible rfl)
     simp only [Act.put, List.setIfInBounds_toArray, List.set_cons_zero, List.set_cons_succ]
     refine anyL_one (i := 6) aZ6 (by kernel_rfl) rfl (fun K hK => ?_)
     go_simp
     refine hK _ _ (.inr HSB) ?_
     try simp only [Act.put, List.setIfInBounds_toArray, List.set_cons_zero, List.set_cons_succ]
     refine anyL_one (i := 7) aZ7 (by kernel_rfl) rfl (fun K hK => ?_)
     go_simp
     refine hK _ _ (.inr HSB) ?_
     try simp only [Act.put, List.setIfInBounds_toArray, List.set_cons_zero, List.set_cons_succ]
     refine anyL_one (i := 8) aZ8 (by kernel_rfl) rfl (fun K hK => ?_)
     go_simp
     refine hK _ _ (.inl rfl) (anyL_done (by kernel_rfl) (NoPanic.normal ?_))
     try simp only [Act.put, List.setIfInBounds_toArray, List.set_cons_zero, List.set_cons_succ]
     clear HS HSB
     go_wp2
     exact bodyPost_ret (v := .tuple #[.agg #[.int .i64 zt, .slice av i cv], .int .i64 ft, .int .i64 0]) (by simp [results, Tryz.results14, go_sem, *]) rfl ⟨_, _, _, _, rfl, HAN.out, ⟨_, rfl, ((OwnSts.setCell (w := wr.drew) ho.out (a := ⟨w.heap.size + 1, 0, none⟩) HKR _).setCell (a := ⟨w.heap.size + 1, 1, none⟩) HKR _).sts⟩, by (have h9 := HB0r.out); go_grown⟩
 ·exact bodyPost_ret (v := .tuple #[.agg #[.int .i64 0, .slice none 0 0], .int .i64 0, .int .i64 ec]) (by simp [results, Tryz.results14, go_sem, *]) rfl ⟨_, _, _, _, rfl, HTE.out fs ec HQ.out hec, mach_zeroR _, by (have h9 := HB02.out); go_grown⟩
theorem pushed_any (v : Value) (m : Mc) (w : World) (h : Mach w v m) (hok : okM m) :
  Calls Tryz.prog 14 #[v] w fun e w' => PshRes (PshAns m) w e w' := by
 by_cases hr : faultM m = 0
 ·exact pushed_ok v m w h hok hr
 ·exact pushed_bad v m w h hok hr
end Go.Proofs.YthajkkobgfighaaGreatDoor.Wt
