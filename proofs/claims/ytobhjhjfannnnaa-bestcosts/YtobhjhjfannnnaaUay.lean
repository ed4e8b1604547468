/- A table of numbers in a block of its own beside the machine's box; the reference: ends. -/
import Derived.Test.YtobhjhjfannnnaaUax
import Derived.Test.YtobhjhjfannnnaaUae
import Derived.Deep.DeepCutAuto
import Derived.BigQuiet
import Derived.Test.YtobhjhjfannnnaaUas
namespace Go.Proofs.Ytobhjhjfannnnaa.Wt
open Go.ChangeShapes Go.WideShapes Go.ChangeAt Go.RowKit
open Go.Proofs.Ytobhjhjfannnnaa.Pl
set_option linter.unusedVariables false
set_option linter.unusedSimpArgs false
def TabD (w : World) (C : Nat) (z : Int) (a : Option Addr) (n cap : Nat) (wr : World) (cs : List Int) : Prop := Blk wr C (cs.map (Value.int .i64)).toArray 3 ∧ Blk wr w.heap.size #[.int .i64 z, .slice a n cap] 24 ∧ Below w.heap.size w wr ∧ w.heap.size < C
theorem TabD.set {w wr : World} {C : Nat} {z : Int} {a : Option Addr} {n cap : Nat} {cs : List Int} (h : TabD w C z a n cap wr cs) (k : Nat) (c : Int) : TabD w C z a n cap (wr.setCell ⟨C, k, none⟩ (.int .i64 c)) (cs.set k c) :=
 have hC := h.2.2.2
 ⟨by have := h.1.set k (.int .i64 c); rwa [set_num] at this, h.2.1.setO _ _ (by show w.heap.size ≠ C; omega), h.2.2.1.setCell (p := ⟨C, k, none⟩) (by show w.heap.size ≤ C; omega) _, hC⟩
theorem TabD.drew {w wr : World} {C : Nat} {z : Int} {a : Option Addr} {n cap : Nat} {cs : List Int} (h : TabD w C z a n cap wr cs) : TabD w C z a n cap wr.drew cs := ⟨h.1.drew, h.2.1.drew, h.2.2.1.drew, h.2.2.2⟩
theorem TabD.drewN {w wr : World} {C : Nat} {z : Int} {a : Option Addr} {n cap : Nat} {cs : List Int} (h : TabD w C z a n cap wr cs) (q : Nat) : TabD w C z a n cap (wr.drewN q) cs := ⟨h.1.drewN q, h.2.1.drewN q, ⟨h.2.2.1.os, h.2.2.1.tape, h.2.2.1.output, h.2.2.1.size, h.2.2.1.block⟩, h.2.2.2⟩
theorem TabD.alloc {w wr : World} {C : Nat} {z : Int} {a : Option Addr} {n cap : Nat} {cs : List Int} (h : TabD w C z a n cap wr cs) (o : Obj) : TabD w C z a n cap (wr.alloc o) cs := ⟨h.1.alloc o, h.2.1.alloc o, h.2.2.1.alloc h.2.2.1.size o, h.2.2.2⟩
theorem TabD.made {w w1 : World} {z : Int} {a : Option Addr} {n cap : Nat} (h : Blk w1 w.heap.size #[.int .i64 z, .slice a n cap] 24) (hb : Below w.heap.size w w1) (N : Nat) : TabD w w1.heap.size z a n cap (w1.alloc (.cells ((List.replicate N (0 : Int)).map (Value.int .i64)).toArray 3)) (List.replicate N 0) :=
 ⟨Blk.made w1 _ _, h.alloc _, hb.alloc hb.size _, h.lt⟩
set_option maxRecDepth 100000 in
set_option maxHeartbeats 1600000 in
theorem endsR_any (v : Value) (m : Mc) (w : World) (h : Mach w v m) (hr : faultM m = 0) :
  Calls Try.prog 57 #[v] w fun e w' => ∃ vr cs, e = .returned vr ∧ cs.length = m.2.length ∧ (∀ q, q < m.2.length → TldQ (EndC m.2 q) (el cs q)) ∧ Nums w' vr cs ∧ Below w.heap.size w w' := by
 obtain ⟨z, l⟩ := m
 obtain ⟨⟨hz1, hz2⟩, hst⟩ := right_parts hr
 have h60 := (right_size hr).1
 simp only at hz1 hz2 hst h60
 have HR := hidP hr
 have HARC : Hid (∀ j, j < l.length → (el l j).2.length ≤ 400) := fun j hj => by
  have h1 := arcN_take hj
  have h2 := arcN_takeR l (j + 1)
  have h3 := (right_size hr).2
  omega
 have HFIN : Hid (∀ q, q < l.length → (el l q).1 ≠ 1000000001 → 0 ≤ (el l q).1 ∧ (el l q).1 ≤ 1000000000) := fun q hq hf => fin_small (m := (z, l)) hr hq hf
 obtain ⟨vs, rfl, hS⟩ := h
 obtain ⟨a, cap, rfl, hc⟩ := hS.get
 have HC : Hid (∀ j, j < l.length → ∃ b off va, a = some ⟨b, off, none⟩ ∧ b < w.heap.size ∧ w.cell? ⟨b, off + j * 2, none⟩ = some (.int .i64 (el l j).1) ∧ w.cell? ⟨b, off + j * 2 + 1, none⟩ = some va ∧ Arcs w va (el l j).2) := hc
 have HGOAL : Hid (∀ cs, EndT l cs → EndTo l l.length 0 cs → cs.length = l.length ∧ ∀ q, q < l.length → TldQ (EndC l q) (el cs q)) := fun cs h1 h2 => ⟨h1.len, fun q hq => EndT.told (m := (z, l)) hr h1 h2.1 hq⟩
 have HST0 : Hid (∀ cs : List Int, cs.length = l.length → (∀ q, q < l.length → el cs q = endI (el l q).1) → EndT l cs ∧ EndTo l 0 0 cs) := fun cs h1 h2 => endT_start (m := (z, l)) hr h1 h2
 have HNX : Hid (∀ cs k q, k ≤ 60 → EndTo l k q cs → ClsE cs q (el l q).2 (el l q).2.length → EndTo l k (q + 1) cs) := fun cs k q hk h1 h2 => h1.next h2.all (endHb (m := (z, l)) hr hk h1.1)
 generalize hn : l.length = n at *
 have HN := hidP hn
 have hmk := run_nums n (by omega)
 have HST : Hid (∀ s, s ∈ l → stB n s = true) := hst
 clear hS hc hr hst hn
 simp only
 go_enter Try.func57, Try.ntmps57
 go_wp2
 obtain ⟨C, hCe⟩ : ∃ C, C = w.heap.size + 1 := ⟨_, rfl⟩
 rw [← hCe]
 have HCE := hidP hCe
 clear hCe
 go_loopw [5] (fun i wr => ∃ (q : Nat) (cs : List Int), q ≤ n ∧ i = .int .i64 q ∧ Hid (cs.length = n ∧ ∀ j, j < q → el cs j = endI (el l j).1) ∧ Hid (TabD w C z a n cap wr cs)) (fun i _ => n - (intOf i).toNat)
 case atStart =>
  refine ⟨0, List.replicate n 0, Nat.zero_le _, rfl, ⟨by simp, fun j hj => absurd hj (by omega)⟩, ?_⟩
  have h9 := TabD.made (w := w) (z := z) (a := a) (n := n) (cap := cap) (Blk.made w _ _) ((Below.refl _ _).alloc (Nat.le_refl _) _) n
  rw [List.map_replicate, List.toArray_replicate, World.size_alloc, ← HCE.out] at h9
  exact h9
 case round =>
  obtain ⟨q, cs, hq, rfl, hcs, hT⟩ := hrel
  by_cases hqn : q < n
  ·have hq1 : (q : Int) < (n : Int) := by omega
   have hq0 : (0 : Int) ≤ (q : Int) := by omega
   have hqc : q < cs.length := by rw [hcs.out.1]; exact hqn
   obtain ⟨b3, off, va, rfl, hb3, y0, _, _⟩ := HC.out q hqn
   have c0 := num_cell hT.out.1 (j := q) hqc
   have f0 := hT.out.1.fz q
   have HT1 := hidP (hT.out.set q 1152921504606846976)
   have d1 := hT.out.2.1.cell 1 (v := .slice (some ⟨b3, off, none⟩) n cap) rfl
   have y1 := (hT.out.2.2.1.cell (p := ⟨b3, off + q * 2, none⟩) hb3).trans y0
   have hn1 : ¬ w.heap.size = C := by have h9 := HCE.out; omega
   have hn2 : ¬ C = w.heap.size := by have h9 := HCE.out; omega
   have hn3 : ¬ b3 = C := by have h9 := HCE.out; omega
   have hn4 : ¬ C = b3 := by have h9 := HCE.out; omega
   have HCS : Hid (∀ c : Int, c = endI (el l q).1 → ∀ ds : List Int, ds.length = n → (∀ j, el ds j = if j = q then c else el cs j) → ds.length = n ∧ ∀ j, j < q + 1 → el ds j = endI (el l j).1) := fun c hc ds h1 h2 => ⟨h1, fun j hj => by
    rw [h2 j]
    split
    ·rename_i e; rw [e]; exact hc
    ·exact hcs.out.2 j (by omega)⟩
   by_cases hf : (el l q).1 = 1000000001
   ·have HE : Hid (1152921504606846976 = endI (el l q).1) := by show _ = _; unfold endI; rw [if_pos hf]; rfl
    rw [hf] at y1
    go_wp2
    go_roundw
    case rel => exact ⟨q + 1, cs.set q 1152921504606846976, by omega, by go_num, HCS.out _ HE.out _ (by rw [List.length_set]; exact hcs.out.1) (fun j => el_setT hqc _), HT1⟩
    case measure => simp [intOf]; omega
   ·have HE : Hid ((el l q).1 = endI (el l q).1) := by show _ = _; unfold endI; rw [if_neg hf]
    generalize (el l q).1 = f at *
    have hfb : (f != 1000000001) = true := by simpa using hf
    go_wp2
    go_roundw
    case rel => exact ⟨q + 1, (cs.set q 1152921504606846976).set q f, by omega, by go_num, HCS.out _ HE.out _ (by rw [List.length_set, List.length_set]; exact hcs.out.1) (fun j => by rw [el_setT (by rw [List.length_set]; exact hqc), el_setT hqc]; split <;> rfl), HT1.out.set q f⟩
    case measure => simp [intOf]; omega
  ·have hq1 : ¬ (q : Int) < (n : Int) := by omega
   obtain rfl : q = n := by omega
   obtain ⟨hE0, hE1⟩ := HST0.out cs hcs.out.1 hcs.out.2
   have HE0 := hidP hE0
   have HE1 := hidP hE1
   clear hE0 hE1 hcs hmk HST0 hq hq1 hqn
   obtain ⟨n, rfl⟩ : ∃ n, n = q := ⟨_, rfl⟩
   go_wp2
   obtain ⟨w2, rfl⟩ : ∃ w2, w2 = wr := ⟨_, rfl⟩
   go_loopw [6] (fun i wr => ∃ (k : Nat) (cs : List Int), k ≤ n ∧ i = .int .i64 k ∧ Hid (EndT l cs) ∧ Hid (EndTo l k 0 cs) ∧ Hid (TabD w C z a n cap wr cs)) (fun i _ => n - (intOf i).toNat)
   case atStart => exact ⟨0, cs, Nat.zero_le _, rfl, HE0, HE1, hT⟩
   case round =>
    clear hT HE0 HE1
    obtain ⟨k, cs, hk, rfl, hE, hD, hT⟩ := hrel
    by_cases hkn : k < n
    ·have hk1 : (k : Int) < (n : Int) := by omega
     go_wp2
     obtain ⟨w3, rfl⟩ : ∃ w3, w3 = wr := ⟨_, rfl⟩
     go_loopw [7] (fun i wr => ∃ (q : Nat) (cs : List Int), q ≤ n ∧ i = .int .i64 q ∧ Hid (EndT l cs) ∧ Hid (EndTo l k q cs) ∧ Hid (TabD w C z a n cap wr cs)) (fun i _ => n - (intOf i).toNat)
     case atStart => exact ⟨0, cs, Nat.zero_le _, rfl, hE, hD, hT⟩
     case round =>
      clear hT hE hD
      obtain ⟨q, cs, hq, rfl, hE, hD, hT⟩ := hrel
      by_cases hqn : q < n
      ·have hq0 : (0 : Int) ≤ (q : Int) := by omega
       have hq1 : (q : Int) < (n : Int) := by omega
       obtain ⟨b3, off, va, rfl, hb3, y0, y1, gA⟩ := HC.out q hqn
       obtain ⟨a2, cap2, hva, hga⟩ := gA.get
       subst hva
       have hLb := HARC.out q hqn
       have HNXq := hidP (fun cs => HNX.out cs k q (by omega))
       have HAM : Hid (∀ t, t < (el l q).2.length → ArcE l q (el (el l q).2 t).2.2.1.toNat (el (el l q).2 t).2.2.2.toNat ∧ 0 ≤ (el (el l q).2 t).2.2.1 ∧ (el (el l q).2 t).2.2.1 ≤ 1000000000 ∧ 0 ≤ (el (el l q).2 t).2.2.2 ∧ (el (el l q).2 t).2.2.2 < (n : Int)) := fun t ht => by
        have h1 := HST.out _ (el_mem (l := l) (j := q) (by rw [HN.out]; exact hqn))
        simp only [stB, Bool.and_eq_true, List.all_eq_true] at h1
        have h2 := h1.2 _ (el_mem ht)
        simp only [arcB, inB, Bool.and_eq_true, decide_eq_true_eq] at h2
        exact ⟨⟨_, el_mem ht, by omega, rfl⟩, by omega, by omega, by omega, by omega⟩
       generalize (el l q).2 = ar at *
       generalize hL : ar.length = L at *
       have HL := hidP hL
       clear hL
       have HGA := hidP hga
       clear hga gA y0
       go_wp2
       obtain ⟨w4, rfl⟩ : ∃ w4, w4 = wr := ⟨_, rfl⟩
       go_loopw [8] (fun i wr => ∃ (t : Nat) (cs : List Int), t ≤ L ∧ i = .int .i64 t ∧ Hid (EndT l cs) ∧ Hid (EndTo l k q cs) ∧ Hid (ClsE cs q ar t) ∧ Hid (TabD w C z (some ⟨b3, off, none⟩) n cap wr cs)) (fun i _ => L - (intOf i).toNat)
       case atStart => exact ⟨0, cs, Nat.zero_le _, rfl, hE, hD, fun s hs => absurd hs (by omega), hT⟩
       case round =>
        clear hT hE hD
        obtain ⟨t, cs, ht, rfl, hE, hD, hCl, hT⟩ := hrel
        have y2 := (hT.out.2.2.1.cell (p := ⟨b3, off + q * 2 + 1, none⟩) hb3).trans y1
        have d1 := hT.out.2.1.cell 1 (v := .slice (some ⟨b3, off, none⟩) n cap) rfl
        by_cases htL : t < L
        ·have ht0 : (0 : Int) ≤ (t : Int) := by omega
         have ht1 : (t : Int) < (L : Int) := by omega
         obtain ⟨b4, off4, rfl, hb4, g0, g1, g2, g3⟩ := HGA.out t htL
         have e0 := (hT.out.2.2.1.cell (p := ⟨b4, off4 + t * 4, none⟩) hb4).trans g0
         have e1 := (hT.out.2.2.1.cell (p := ⟨b4, off4 + t * 4 + 1, none⟩) hb4).trans g1
         have e2 := (hT.out.2.2.1.cell (p := ⟨b4, off4 + t * 4 + 2, none⟩) hb4).trans g2
         have e3 := (hT.out.2.2.1.cell (p := ⟨b4, off4 + t * 4 + 3, none⟩) hb4).trans g3
         obtain ⟨hA0, hp2, hp2', hp3, hp3'⟩ := HAM.out t htL
         have HA0 := hidP hA0
         have HCS : Hid (∀ ds : List Int, ClsE ds q ar t → (∀ j : Nat, (el ar t).2.2.2 = (j : Int) → el ds j < noneI → el ds q ≤ el ds j + ((el ar t).2.2.1.toNat : Int)) → ClsE ds q ar (t + 1)) := fun ds h1 h2 => h1.step h2
         clear hA0 g0 g1 g2 g3
         generalize el ar t = p at *
         obtain ⟨p0, p1, p2, p3⟩ := p
         simp only at e0 e1 e2 e3 hp2 hp2' hp3 hp3' HA0 HCS
         obtain ⟨tn, rfl⟩ : ∃ tn : Nat, p3 = (tn : Int) := ⟨p3.toNat, by omega⟩
         rw [Int.toNat_natCast] at HA0
         have htn : tn < n := by omega
         have hql : q < cs.length := by rw [hE.out.len, HN.out]; exact hqn
         have htl : tn < cs.length := by rw [hE.out.len, HN.out]; exact htn
         have hrq := hE.out.rng q (by rw [HN.out]; exact hqn)
         have hrt := hE.out.rng tn (by rw [HN.out]; exact htn)
         have HP : Hid ((p2.toNat : Int) = p2) := by show _ = _; omega
         have HREL : Hid (el cs tn < 1152921504606846976 → el cs tn + p2 < el cs q → EndT l (cs.set q (el cs tn + p2)) ∧ EndTo l k q (cs.set q (el cs tn + p2)) ∧ ClsE (cs.set q (el cs tn + p2)) q ar (t + 1)) := fun h1 h2 => by
          have hp := HP.out
          have h3 := hE.out.relax HA0.out (by rw [HN.out]; exact htn) h1 (by rw [hp]; exact h2)
          rw [hp] at h3
          refine ⟨h3, hD.out.less (set_less hql h2), HCS.out _ (hCl.out.set hql h2) fun j hj hl => ?_⟩
          obtain rfl : tn = j := by omega
          rw [el_setT hql, el_setT hql, if_pos rfl, hp]
          split <;> omega
         have HNO : Hid ((el cs tn < 1152921504606846976 → el cs q ≤ el cs tn + p2) → ClsE cs q ar (t + 1)) := fun h1 => HCS.out _ hCl.out fun j hj hl => by
          obtain rfl : tn = j := by omega
          rw [HP.out]
          exact h1 hl
         have hnone : noneI = 1152921504606846976 := rfl
         rw [hnone] at hrq hrt
         clear hnone HCS
         have hn0 : (0 : Int) ≤ (tn : Int) := by omega
         have hn1 : (tn : Int) < (n : Int) := by omega
         go_wp2
         have HT5 := hidP (hT.out.alloc (.cells #[.int .i64 p0, .int .i64 p1, .int .i64 p2, .int .i64 (tn : Int)] 64))
         have HA5 := hidP (Blk.made wr #[.int .i64 p0, .int .i64 p1, .int .i64 p2, .int .i64 (tn : Int)] 64)
         clear hT e0 e1 e2 e3 d1 y2
         generalize wr.alloc (.cells #[.int .i64 p0, .int .i64 p1, .int .i64 p2, .int .i64 (tn : Int)] 64) = w5 at *
         generalize wr.heap.size = G at *
         have a2' := HA5.out.cell 2 (v := .int .i64 p2) rfl
         have a3' := HA5.out.cell 3 (v := .int .i64 (tn : Int)) rfl
         have c1 := num_cell HT5.out.1 (j := tn) htl
         have c2 := num_cell HT5.out.1 (j := q) hql
         generalize hct : el cs tn = ct at *
         generalize hcq : el cs q = cq at *
         have HCT := hidP hct
         have HCQ := hidP hcq
         clear hct hcq
         have hwc : IntKind.i64.wrap (ct + p2) = ct + p2 := wrapI (by omega) (by omega)
         have htw : IntKind.i64.wrap ((t : Int) + 1) = (t : Int) + 1 := wrapI (by omega) (by omega)
         by_cases hnt : ct = 1152921504606846976
         ·have HCN : Hid (ClsE cs q ar (t + 1)) := HNO.out fun h9 => absurd h9 (by omega)
          clear HNO HREL
          have hnb : (ct != 1152921504606846976) = false := by simpa using hnt
          clear hnt
          go_quiet (fail)
          have HT6 := hidP (HT5.out.drewN nq)
          clear HT5 HA5 a2' a3' c1 c2
          generalize w5.drewN nq = w6 at *
          go_wp2
          go_roundw
          case rel => exact ⟨t + 1, cs, by omega, by go_num, hE, hD, HCN, HT6⟩
          case measure => simp [intOf]; omega
         ·have hnb : (ct != 1152921504606846976) = true := by simpa using hnt
          have hnt' : ct < 1152921504606846976 := by omega
          clear hnt
          by_cases hlt : ct + p2 < cq
          ·obtain ⟨r1, r2, r3⟩ := HREL.out hnt' hlt
           have HR1 := hidP r1
           have HR2 := hidP r2
           have HR3 := hidP r3
           clear r1 r2 r3 HREL HNO
           have hld : decide (ct + p2 < cq) = true := by simpa using hlt
           go_quiet (fail)
           have HT6 := hidP (HT5.out.drewN nq)
           have HA6 := hidP (HA5.out.drewN nq)
           clear HT5 HA5 a2' a3' c1 c2
           generalize w5.drewN nq = w6 at *
           have a2' := HA6.out.cell 2 (v := .int .i64 p2) rfl
           have a3' := HA6.out.cell 3 (v := .int .i64 (tn : Int)) rfl
           have c1 := num_cell HT6.out.1 (j := tn) htl
           have c2 := num_cell HT6.out.1 (j := q) hql
           have f2 := HT6.out.1.fz q
           rw [HCT.out] at c1
           go_wp2
           go_region
           go_wp2
           go_roundw
           case rel => exact ⟨t + 1, cs.set q (ct + p2), by omega, by go_num, HR1, HR2, HR3, (HT6.out.set q _).drew⟩
           case measure => simp [intOf]; omega
          ·have HCN : Hid (ClsE cs q ar (t + 1)) := HNO.out fun _ => by omega
           have hld : decide (ct + p2 < cq) = false := by simpa using hlt
           clear HNO HREL
           go_quiet (fail)
           have HT6 := hidP (HT5.out.drewN nq)
           clear HT5 HA5 a2' a3' c1 c2
           generalize w5.drewN nq = w6 at *
           go_wp2
           go_roundw
           case rel => exact ⟨t + 1, cs, by omega, by go_num, hE, hD, HCN, HT6⟩
           case measure => simp [intOf]; omega
        ·have ht1 : ¬ (t : Int) < (L : Int) := by omega
         obtain rfl : t = L := by omega
         have HD2 : Hid (EndTo l k (q + 1) cs) := HNXq.out cs hD.out hCl.out
         go_wp2
         go_roundw
         case rel => exact ⟨q + 1, cs, by omega, by go_num, hE, HD2, hT⟩
         case measure => simp [intOf]; omega
      ·have hq1 : ¬ (q : Int) < (n : Int) := by omega
       obtain rfl : n = q := by omega
       have HD2 : Hid (EndTo l (k + 1) 0 cs) := EndTo.round (by rw [HN.out]; exact hD.out)
       go_wp2
       go_roundw
       case rel => exact ⟨k + 1, cs, by omega, by go_num, hE, HD2, hT⟩
       case measure => simp [intOf]; omega
    ·have hk1 : ¬ (k : Int) < (n : Int) := by omega
     obtain rfl : n = k := by omega
     go_wp2
     go_ret
     have h1 := HGOAL.out cs hE.out hD.out
     refine ⟨_, rfl, cs, h1.1, h1.2, ?_, hT.out.2.2.1⟩
     have h2 := nums_block (cap := n) hT.out.1
     rw [h1.1] at h2
     exact h2
theorem farEnds_bad (v : Value) (m : Mc) (w : World) (h : Mach w v m) (hok : okM m) (hr : faultM m ≠ 0) :
  Calls Try.prog 29 #[v] w fun e w' => LstRes (DstAns m (EndC m.2)) w e w' := by
 have HQ : Hid (DstAns m (EndC m.2) [] (faultM m)) := .inl ⟨hr, rfl, rfl⟩
 generalize DstAns m (EndC m.2) = QQ at *
 obtain ⟨r, hre⟩ : ∃ r, faultM m = r := ⟨_, rfl⟩
 rw [hre] at HQ hr
 have HR := hidP hre
 clear hre
 have HK := hidP hok
 obtain ⟨z, l⟩ := m
 obtain ⟨vs, rfl, hS⟩ := h
 obtain ⟨a, cap, rfl, hc⟩ := hS.get
 have HM : Hid (Mach w (.agg #[.int .i64 z, .slice a l.length cap]) (z, l)) := ⟨_, rfl, hS⟩
 clear hS hc hok
 generalize hn : l.length = n at *
 have hrb : (r != 0) = true := by simpa using hr
 go_enter Try.func29, Try.ntmps29
 go_wp2_with (first
  | (go_at_call 35; (with_reducible refine (fault_any _ (z, l) _ (HM.out.later (B := w.heap.size) (by go_grown) (Nat.le_refl _)) HK.out r HR.out).mono ?_); rintro e w1 ⟨rfl, hb⟩; obtain ⟨s1, b1, hb1⟩ := boxed hb (by simp); have HB1 : Hid (Below w.heap.size w w1) := hb1; clear b1 hb1 hb))
 go_ret2
 exact ⟨_, [], r, rfl, HQ.out, .inl ⟨rfl, rfl⟩, HB1.out⟩
theorem farEnds_ok (v : Value) (m : Mc) (w : World) (h : Mach w v m) (hok : okM m) (hr : faultM m = 0) :
  Calls Try.prog 29 #[v] w fun e w' => LstRes (DstAns m (EndC m.2)) w e w' := by
 have HQ : Hid (∀ cs vs ec, cs.length = m.2.length → (∀ q, q < m.2.length → TldQ (EndC m.2 q) (el cs q)) → CstAns cs vs ec → DstAns m (EndC m.2) vs ec) := fun cs vs ec h1 h2 h3 => .inr ⟨hr, by
  have h4 := h3.lst (P := EndC m.2) (fun q hq => h2 q (by rw [← h1]; exact hq))
  rw [h1] at h4
  exact h4⟩
 generalize DstAns m (EndC m.2) = QQ at *
 have HR := hidP hr
 have HK := hidP hok
 obtain ⟨z, l⟩ := m
 have h60 := (right_size hr).1
 obtain ⟨vs, rfl, hS⟩ := h
 obtain ⟨a, cap, rfl, hc⟩ := hS.get
 have HM : Hid (Mach w (.agg #[.int .i64 z, .slice a l.length cap]) (z, l)) := ⟨_, rfl, hS⟩
 clear hS hc hok hr
 simp only at HQ
 generalize hn : l.length = n at *
 have HN := hidP hn
 clear hn
 go_enter Try.func29, Try.ntmps29
 go_wp2_with (first
  | (go_at_call 35; (with_reducible refine (fault_any _ (z, l) _ (HM.out.later (B := w.heap.size) (by go_grown) (Nat.le_refl _)) HK.out 0 HR.out).mono ?_); rintro e w1 ⟨rfl, hb⟩; obtain ⟨s1, b1, hb1⟩ := boxed hb (by simp); have c0 := b1.cell 0 (v := .int .i64 z) rfl; have c1 := b1.cell 1 (v := .slice a n cap) rfl; have HB1 : Hid (Below w.heap.size w w1) := hb1; clear b1 hb1 hb)
  | (go_at_call 57; (with_reducible refine (endsR_any _ (z, l) _ (HM.out.later HB1.out (Nat.le_refl _)) HR.out).mono ?_); rintro e w2 ⟨vr, cs, rfl, hl, ht, hNu, hb⟩; have HL2 := hidP hl; have HT2 := hidP ht; have HN2 := hidP hNu; have HB2 : Hid (Below w.heap.size w w2) := HB1.out.trans (hb.mono HB1.out.size); clear hl ht hNu hb c0 c1)
  | (go_at_call 58; (with_reducible refine (costs_any _ cs _ HN2.out (by have h9 := HL2.out; rw [HN.out] at h9; omega)).mono ?_); rintro e w9 ⟨vq, vs, ec, rfl, hA, hNu, hb⟩; have HA := hidP hA; have HNu := hidP hNu; have HB9 := hidP hb; clear hA hNu hb))
 go_ret2
 exact ⟨_, vs, ec, rfl, HQ.out cs vs ec (by rw [← HN.out]; exact HL2.out) (by rw [← HN.out]; exact HT2.out) HA.out, HNu.out, HB2.out.trans (HB9.out.mono HB2.out.size)⟩
theorem farEnds_any (v : Value) (m : Mc) (w : World) (h : Mach w v m) (hok : okM m) :
  Calls Try.prog 29 #[v] w fun e w' => LstRes (DstAns m (EndC m.2)) w e w' := by
 by_cases hr : faultM m = 0
 ·exact farEnds_ok v m w h hok hr
 ·exact farEnds_bad v m w h hok hr
end Go.Proofs.Ytobhjhjfannnnaa.Wt
