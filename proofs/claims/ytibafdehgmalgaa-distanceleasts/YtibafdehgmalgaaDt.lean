/- The reference: how far each state is from the start. -/
import Derived.Test.YtibafdehgmalgaaDs
import Derived.Test.YtibafdehgmalgaaJ13m
namespace Go.Proofs.Ytibafdehgmalgaa.Wt
open Go.ChangeShapes Go.WideShapes Go.ChangeAt Go.RowKit
open Go.Proofs.Ytibafdehgmalgaa.Pl
set_option linter.unusedVariables false
set_option linter.unusedSimpArgs false
theorem farFrom_bad (v : Value) (m : Mc) (w : World) (h : Mach w v m) (hok : okM m) (hr : faultM m ≠ 0) :
    Calls Try.prog 11 #[v] w fun e w' => LstRes (DstAns m (FarC m.1 m.2)) w e w' := by
  have HQ : Hid (DstAns m (FarC m.1 m.2) [] (faultM m)) := .inl ⟨hr, rfl, rfl⟩
  generalize DstAns m (FarC m.1 m.2) = QQ at *
  obtain ⟨r, hre⟩ : ∃ r, faultM m = r := ⟨_, rfl⟩
  rw [hre] at HQ hr
  have HR := hidP hre
  clear hre
  have HK := hidP hok
  obtain ⟨z, l⟩ := m
  obtain ⟨vs, rfl, hS⟩ := h
  obtain ⟨a, cap, rfl, hc⟩ := hS.get
  have HM : Hid (Mach w (.agg #[.int .i64 z, .slice a l.length cap]) (z, l)) := ⟨_, rfl, hS⟩
  clear hS hc hok
  generalize hn : l.length = n at *
  have hrb : (r != 0) = true := by simpa using hr
  go_enter Try.func11, Try.ntmps11
  go_wp2_with (first
    | (go_at_call 26; (with_reducible refine (fault_any _ (z, l) _ (HM.out.later (B := w.heap.size) (by go_grown) (Nat.le_refl _)) HK.out r HR.out).mono ?_); rintro e w1 ⟨rfl, hb⟩; obtain ⟨s1, b1, hb1⟩ := boxed hb (by simp); have HB1 : Hid (Below w.heap.size w w1) := hb1; clear b1 hb1 hb))
  go_ret2
  exact ⟨_, [], r, rfl, HQ.out, .inl ⟨rfl, rfl⟩, HB1.out⟩
set_option maxRecDepth 100000 in
set_option maxHeartbeats 1600000 in
theorem farFrom_ok (v : Value) (m : Mc) (w : World) (h : Mach w v m) (hok : okM m) (hr : faultM m = 0) :
    Calls Try.prog 11 #[v] w fun e w' => LstRes (DstAns m (FarC m.1 m.2)) w e w' := by
  obtain ⟨z, l⟩ := m
  obtain ⟨⟨hz1, hz2⟩, hst⟩ := right_parts hr
  have h60 := (right_size hr).1
  simp only at hz1 hz2 hst h60
  have HR := hidP hr
  have HARC : Hid (∀ j, j < l.length → (el l j).2.length ≤ 400) := fun j hj => by
    have h1 := arcN_take hj
    have h2 := arcN_takeR l (j + 1)
    have h3 := (right_size hr).2
    omega
  have HFIN : Hid (∀ q, q < l.length → (el l q).1 ≠ 1000000001 → 0 ≤ (el l q).1 ∧ (el l q).1 ≤ 1000000000) := fun q hq hf => fin_small (m := (z, l)) hr hq hf
  obtain ⟨vs, rfl, hS⟩ := h
  obtain ⟨a, cap, rfl, hc⟩ := hS.get
  have HC : Hid (∀ j, j < l.length → ∃ b off va, a = some ⟨b, off, none⟩ ∧ b < w.heap.size ∧ w.cell? ⟨b, off + j * 2, none⟩ = some (.int .i64 (el l j).1) ∧ w.cell? ⟨b, off + j * 2 + 1, none⟩ = some va ∧ Arcs w va (el l j).2) := hc
  have HM : Hid (Mach w (.agg #[.int .i64 z, .slice a l.length cap]) (z, l)) := ⟨_, rfl, hS⟩
  have HK := hidP hok
  have HGOAL : Hid (∀ cs vs ec, FarT z l cs → FarTo z l l.length 0 cs → CstAns cs vs ec → DstAns (z, l) (FarC z l) vs ec) := fun cs vs ec h1 h2 h3 => .inr ⟨hr, by
    have h4 := h3.lst (P := FarC z l) (fun q hq => FarT.told (m := (z, l)) hr h1 h2.1 (by rw [← h1.len]; exact hq))
    rw [h1.len] at h4
    exact h4⟩
  have HST0 : Hid (∀ cs : List Int, cs.length = l.length → (∀ q, q < l.length → el cs q = if (q : Int) = z then 0 else noneI) → FarT z l cs ∧ FarTo z l 0 0 cs) := fun cs h1 h2 => farT_start (m := (z, l)) hr h1 h2
  have HNX : Hid (∀ cs k q, k ≤ 60 → FarTo z l k q cs → (ClsF cs q (el l q).2 (el l q).2.length ∨ el cs q = 1152921504606846976) → FarTo z l k (q + 1) cs) := fun cs k q hk h1 h2 => h1.next (fun w j e hl => by
    rcases h2 with h2 | h2
    · exact h2.all w j e hl
    · rw [h2] at hl; exact absurd hl (by unfold noneI; omega)) (farHb (m := (z, l)) hr hk h1.1)
  generalize hn : l.length = n at *
  have HN := hidP hn
  have hmk := run_nums n (by omega)
  have HST : Hid (∀ s, s ∈ l → stB n s = true) := hst
  clear hS hc hr hst hn hok
  show Calls _ _ _ _ fun e w' => LstRes (DstAns (z, l) (FarC z l)) w e w'
  generalize DstAns (z, l) (FarC z l) = QQ at *
  go_enter Try.func11, Try.ntmps11
  go_wp2_with (first
    | (go_at_call 26; (with_reducible refine (fault_any _ (z, l) _ (HM.out.later (B := w.heap.size) (by go_grown) (Nat.le_refl _)) HK.out 0 HR.out).mono ?_); rintro e w1 ⟨rfl, hb⟩; obtain ⟨s1, b1, hb1⟩ := boxed hb (by simp); have K0 : Hid (Blk w1 w.heap.size #[.int .i64 z, .slice a n cap] 24) := b1; have c0 := b1.cell 0 (v := .int .i64 z) rfl; have c1 := b1.cell 1 (v := .slice a n cap) rfl; have HB1 : Hid (Below w.heap.size w w1) := hb1; clear b1 hb1 hb))
  clear c0 c1
  have HT0 : Hid (TabD w w1.heap.size z a n cap (w1.alloc (.cells (Array.replicate n (Value.int .i64 0)) 3)) (List.replicate n 0)) := by
    have h9 := TabD.made K0.out HB1.out n
    rw [List.map_replicate, List.toArray_replicate] at h9
    exact h9
  obtain ⟨C, hCe⟩ : ∃ C, C = w1.heap.size := ⟨_, rfl⟩
  rw [← hCe] at HT0 ⊢
  clear hCe s1 K0 HB1
  go_loopw [7] (fun i wr => ∃ (q : Nat) (cs : List Int), q ≤ n ∧ i = .int .i64 q ∧ Hid (cs.length = n ∧ ∀ j, j < q → el cs j = noneI) ∧ Hid (TabD w C z a n cap wr cs)) (fun i _ => n - (intOf i).toNat)
  case atStart => exact ⟨0, List.replicate n 0, Nat.zero_le _, rfl, ⟨by simp, fun j hj => absurd hj (by omega)⟩, HT0⟩
  case round =>
    clear HT0
    obtain ⟨q, cs, hq, rfl, hcs, hT⟩ := hrel
    by_cases hqn : q < n
    · have hq1 : (q : Int) < (n : Int) := by omega
      have hq0 : (0 : Int) ≤ (q : Int) := by omega
      have hqc : q < cs.length := by rw [hcs.out.1]; exact hqn
      have c0 := num_cell hT.out.1 (j := q) hqc
      have f0 := hT.out.1.fz q
      go_wp2
      go_roundw
      case rel => exact ⟨q + 1, cs.set q noneI, by omega, by go_num, ⟨by rw [List.length_set]; exact hcs.out.1, fun j hj => by rw [el_setT hqc]; split; rfl; exact hcs.out.2 j (by omega)⟩, hT.out.set q _⟩
      case measure => simp [intOf]; omega
    · have hq1 : ¬ (q : Int) < (n : Int) := by omega
      obtain rfl : q = n := by omega
      obtain ⟨n, rfl⟩ : ∃ n, n = q := ⟨_, rfl⟩
      clear hmk hq hq1 hqn
      have d0 := hT.out.2.1.cell 0 (v := .int .i64 z) rfl
      go_upto_if 34 with fail
      go_cut [] (fun wx => ∃ cs, Hid (FarT z l cs) ∧ Hid (FarTo z l 0 0 cs) ∧ Hid (TabD w C z a n cap wx cs))
      case first =>
        by_cases hz0 : 0 ≤ z
        · obtain ⟨zn, rfl⟩ : ∃ zn : Nat, z = (zn : Int) := ⟨z.toNat, by omega⟩
          have hzn : zn < n := by omega
          have hzc : zn < cs.length := by rw [hcs.out.1]; exact hzn
          obtain ⟨hE0, hE1⟩ := HST0.out (cs.set zn 0) (by rw [List.length_set]; exact hcs.out.1) (fun q hq => by
            rw [el_setT hzc]
            by_cases e : q = zn
            · rw [if_pos e, if_pos (by omega)]
            · rw [if_neg e, if_neg (by omega)]; exact hcs.out.2 q hq)
          have HE0 := hidP hE0
          have HE1 := hidP hE1
          clear hE0 hE1
          have hI1 : (zn : Int) < (n : Int) := by omega
          have c0 := num_cell hT.out.1 (j := zn) hzc
          have f0 := hT.out.1.fz zn
          go_wp2
          go_meet
          case rel => exact ⟨_, HE0, HE1, hT.out.set zn 0⟩
        · obtain ⟨hE0, hE1⟩ := HST0.out cs hcs.out.1 (fun q hq => by rw [if_neg (by omega)]; exact hcs.out.2 q hq)
          have HE0 := hidP hE0
          have HE1 := hidP hE1
          clear hE0 hE1
          go_wp2
          go_meet
          case rel => exact ⟨_, HE0, HE1, hT⟩
      case rest =>
       clear hT hcs d0 HST0
       obtain ⟨cs1, HE0, HE1, hT1⟩ := hcut
       go_wp2
       obtain ⟨w2, rfl⟩ : ∃ w2, w2 = wr := ⟨_, rfl⟩
       go_loopw [8] (fun i wr => ∃ (k : Nat) (cs : List Int), k ≤ n ∧ i = .int .i64 k ∧ Hid (FarT z l cs) ∧ Hid (FarTo z l k 0 cs) ∧ Hid (TabD w C z a n cap wr cs)) (fun i _ => n - (intOf i).toNat)
       case atStart => exact ⟨0, cs1, Nat.zero_le _, rfl, HE0, HE1, hT1⟩
       case round =>
         clear hT1 HE0 HE1
         obtain ⟨k, cs, hk, rfl, hE, hD, hT⟩ := hrel
         by_cases hkn : k < n
         · have hk1 : (k : Int) < (n : Int) := by omega
           go_wp2
           obtain ⟨w3, rfl⟩ : ∃ w3, w3 = wr := ⟨_, rfl⟩
           go_loopw [9] (fun i wr => ∃ (q : Nat) (cs : List Int), q ≤ n ∧ i = .int .i64 q ∧ Hid (FarT z l cs) ∧ Hid (FarTo z l k q cs) ∧ Hid (TabD w C z a n cap wr cs)) (fun i _ => n - (intOf i).toNat)
           case atStart => exact ⟨0, cs, Nat.zero_le _, rfl, hE, hD, hT⟩
           case round =>
             clear hT hE hD
             obtain ⟨q, cs, hq, rfl, hE, hD, hT⟩ := hrel
             by_cases hqn : q < n
             · have hq0 : (0 : Int) ≤ (q : Int) := by omega
               have hq1 : (q : Int) < (n : Int) := by omega
               obtain ⟨b3, off, va, rfl, hb3, y0, y1, gA⟩ := HC.out q hqn
               obtain ⟨a2, cap2, hva, hga⟩ := gA.get
               subst hva
               have hLb := HARC.out q hqn
               have HNXq := hidP (fun cs => HNX.out cs k q (by omega))
               have HAM : Hid (∀ t, t < (el l q).2.length → ArcE l q (el (el l q).2 t).2.2.1.toNat (el (el l q).2 t).2.2.2.toNat ∧ 0 ≤ (el (el l q).2 t).2.2.1 ∧ (el (el l q).2 t).2.2.1 ≤ 1000000000 ∧ 0 ≤ (el (el l q).2 t).2.2.2 ∧ (el (el l q).2 t).2.2.2 < (n : Int)) := fun t ht => by
                 have h1 := HST.out _ (el_mem (l := l) (j := q) (by rw [HN.out]; exact hqn))
                 simp only [stB, Bool.and_eq_true, List.all_eq_true] at h1
                 have h2 := h1.2 _ (el_mem ht)
                 simp only [arcB, inB, Bool.and_eq_true, decide_eq_true_eq] at h2
                 exact ⟨⟨_, el_mem ht, by omega, rfl⟩, by omega, by omega, by omega, by omega⟩
               generalize (el l q).2 = ar at *
               generalize hL : ar.length = L at *
               have HL := hidP hL
               clear hL
               have HGA := hidP hga
               clear hga gA y0
               go_wp2
               obtain ⟨w4, rfl⟩ : ∃ w4, w4 = wr := ⟨_, rfl⟩
               go_loopw [10] (fun i wr => ∃ (t : Nat) (cs : List Int), t ≤ L ∧ i = .int .i64 t ∧ Hid (FarT z l cs) ∧ Hid (FarTo z l k q cs) ∧ Hid (ClsF cs q ar t) ∧ Hid (TabD w C z (some ⟨b3, off, none⟩) n cap wr cs)) (fun i _ => L - (intOf i).toNat)
               case atStart => exact ⟨0, cs, Nat.zero_le _, rfl, hE, hD, fun s hs => absurd hs (by omega), hT⟩
               case round =>
                 clear hT hE hD
                 obtain ⟨t, cs, ht, rfl, hE, hD, hCl, hT⟩ := hrel
                 have y2 := (hT.out.2.2.1.cell (p := ⟨b3, off + q * 2 + 1, none⟩) hb3).trans y1
                 have d1 := hT.out.2.1.cell 1 (v := .slice (some ⟨b3, off, none⟩) n cap) rfl
                 by_cases htL : t < L
                 · have ht0 : (0 : Int) ≤ (t : Int) := by omega
                   have ht1 : (t : Int) < (L : Int) := by omega
                   obtain ⟨b4, off4, rfl, hb4, g0, g1, g2, g3⟩ := HGA.out t htL
                   have e0 := (hT.out.2.2.1.cell (p := ⟨b4, off4 + t * 4, none⟩) hb4).trans g0
                   have e1 := (hT.out.2.2.1.cell (p := ⟨b4, off4 + t * 4 + 1, none⟩) hb4).trans g1
                   have e2 := (hT.out.2.2.1.cell (p := ⟨b4, off4 + t * 4 + 2, none⟩) hb4).trans g2
                   have e3 := (hT.out.2.2.1.cell (p := ⟨b4, off4 + t * 4 + 3, none⟩) hb4).trans g3
                   obtain ⟨hA0, hp2, hp2', hp3, hp3'⟩ := HAM.out t htL
                   have HA0 := hidP hA0
                   have HCS : Hid (∀ ds : List Int, ClsF ds q ar t → (∀ j : Nat, (el ar t).2.2.2 = (j : Int) → el ds j ≤ el ds q + ((el ar t).2.2.1.toNat : Int)) → ClsF ds q ar (t + 1)) := fun ds h1 h2 => h1.step h2
                   clear hA0 g0 g1 g2 g3
                   generalize el ar t = p at *
                   obtain ⟨p0, p1, p2, p3⟩ := p
                   simp only at e0 e1 e2 e3 hp2 hp2' hp3 hp3' HA0 HCS
                   obtain ⟨tn, rfl⟩ : ∃ tn : Nat, p3 = (tn : Int) := ⟨p3.toNat, by omega⟩
                   rw [Int.toNat_natCast] at HA0
                   have htn : tn < n := by omega
                   have hql : q < cs.length := by rw [hE.out.len, HN.out]; exact hqn
                   have htl : tn < cs.length := by rw [hE.out.len, HN.out]; exact htn
                   have hrq := hE.out.rng q (by rw [HN.out]; exact hqn)
                   have hrt := hE.out.rng tn (by rw [HN.out]; exact htn)
                   have HP : Hid ((p2.toNat : Int) = p2) := by show _ = _; omega
                   have HREL : Hid (el cs q < 1152921504606846976 → el cs q + p2 < el cs tn → FarT z l (cs.set tn (el cs q + p2)) ∧ FarTo z l k q (cs.set tn (el cs q + p2)) ∧ ClsF (cs.set tn (el cs q + p2)) q ar (t + 1)) := fun h1 h2 => by
                     have hp := HP.out
                     have h3 := hE.out.relax HA0.out h1 (by rw [HN.out]; exact htn) (by rw [hp]; exact h2)
                     have h4 := hCl.out.set (w := p2.toNat) htl (by rw [hp]; exact h2)
                     rw [hp] at h3 h4
                     refine ⟨h3, hD.out.less (set_less htl h2), HCS.out _ h4 fun j hj => ?_⟩
                     obtain rfl : tn = j := by omega
                     rw [el_setT htl, el_setT htl, if_pos rfl, hp]
                     split <;> omega
                   have HNO : Hid (el cs tn ≤ el cs q + p2 → ClsF cs q ar (t + 1)) := fun h1 => HCS.out _ hCl.out fun j hj => by
                     obtain rfl : tn = j := by omega
                     rw [HP.out]
                     exact h1
                   have hnone : noneI = 1152921504606846976 := rfl
                   rw [hnone] at hrq hrt
                   clear hnone HCS
                   have HNN : Hid (el cs q = 1152921504606846976 → FarTo z l k (q + 1) cs) := fun h9 => HNXq.out cs hD.out (.inr h9)
                   have hn0 : (0 : Int) ≤ (tn : Int) := by omega
                   have hn1 : (tn : Int) < (n : Int) := by omega
                   have c1 := num_cell hT.out.1 (j := q) hql
                   generalize hct : el cs tn = ct at *
                   generalize hcq : el cs q = cq at *
                   have HCT := hidP hct
                   have HCQ := hidP hcq
                   clear hct hcq
                   have hwc : IntKind.i64.wrap (cq + p2) = cq + p2 := wrapI (by omega) (by omega)
                   have htw : IntKind.i64.wrap ((t : Int) + 1) = (t : Int) + 1 := wrapI (by omega) (by omega)
                   by_cases hnt : cq = 1152921504606846976
                   · have HD2 : Hid (FarTo z l k (q + 1) cs) := HNN.out hnt
                     have hnb : (cq != 1152921504606846976) = false := by simpa using hnt
                     clear hnt HNO HREL HNN
                     go_wp2
                     go_roundw
                     case rel => exact ⟨q + 1, cs, by omega, by go_num, hE, HD2, hT⟩
                     case measure => simp [intOf]; omega
                   · have hnb : (cq != 1152921504606846976) = true := by simpa using hnt
                     have hnt' : cq < 1152921504606846976 := by omega
                     clear hnt HNN
                     go_wp2
                     have HT5 := hidP (hT.out.alloc (.cells #[.int .i64 p0, .int .i64 p1, .int .i64 p2, .int .i64 (tn : Int)] 46))
                     have HA5 := hidP (Blk.made wr #[.int .i64 p0, .int .i64 p1, .int .i64 p2, .int .i64 (tn : Int)] 46)
                     clear hT e0 e1 e2 e3 d1 y2 c1
                     generalize wr.alloc (.cells #[.int .i64 p0, .int .i64 p1, .int .i64 p2, .int .i64 (tn : Int)] 46) = w5 at *
                     generalize wr.heap.size = G at *
                     have a2' := HA5.out.cell 2 (v := .int .i64 p2) rfl
                     have a3' := HA5.out.cell 3 (v := .int .i64 (tn : Int)) rfl
                     have c1 := num_cell HT5.out.1 (j := q) hql
                     have c2 := num_cell HT5.out.1 (j := tn) htl
                     rw [HCQ.out] at c1
                     rw [HCT.out] at c2
                     by_cases hlt : cq + p2 < ct
                     · obtain ⟨r1, r2, r3⟩ := HREL.out hnt' hlt
                       have HR1 := hidP r1
                       have HR2 := hidP r2
                       have HR3 := hidP r3
                       clear r1 r2 r3 HREL HNO
                       have hld : decide (cq + p2 < ct) = true := by simpa using hlt
                       go_quiet (fail)
                       have HT6 := hidP (HT5.out.drewN nq)
                       have HA6 := hidP (HA5.out.drewN nq)
                       clear HT5 HA5 a2' a3' c1 c2
                       generalize w5.drewN nq = w6 at *
                       have a2' := HA6.out.cell 2 (v := .int .i64 p2) rfl
                       have a3' := HA6.out.cell 3 (v := .int .i64 (tn : Int)) rfl
                       have c1 := num_cell HT6.out.1 (j := q) hql
                       have c2 := num_cell HT6.out.1 (j := tn) htl
                       have f2 := HT6.out.1.fz tn
                       rw [HCQ.out] at c1
                       go_wp2
                       go_region
                       go_wp2
                       go_roundw
                       case rel => exact ⟨t + 1, cs.set tn (cq + p2), by omega, by go_num, HR1, HR2, HR3, (HT6.out.set tn _).drew⟩
                       case measure => simp [intOf]; omega
                     · have HCN : Hid (ClsF cs q ar (t + 1)) := HNO.out (by omega)
                       have hld : decide (cq + p2 < ct) = false := by simpa using hlt
                       clear HNO HREL
                       go_quiet (fail)
                       have HT6 := hidP (HT5.out.drewN nq)
                       clear HT5 HA5 a2' a3' c1 c2
                       generalize w5.drewN nq = w6 at *
                       go_wp2
                       go_roundw
                       case rel => exact ⟨t + 1, cs, by omega, by go_num, hE, hD, HCN, HT6⟩
                       case measure => simp [intOf]; omega
                 · have ht1 : ¬ (t : Int) < (L : Int) := by omega
                   obtain rfl : t = L := by omega
                   have HD2 : Hid (FarTo z l k (q + 1) cs) := HNXq.out cs hD.out (.inl hCl.out)
                   go_wp2
                   go_roundw
                   case rel => exact ⟨q + 1, cs, by omega, by go_num, hE, HD2, hT⟩
                   case measure => simp [intOf]; omega
             · have hq1 : ¬ (q : Int) < (n : Int) := by omega
               obtain rfl : n = q := by omega
               have HD2 : Hid (FarTo z l (k + 1) 0 cs) := FarTo.round (by rw [HN.out]; exact hD.out)
               go_wp2
               go_roundw
               case rel => exact ⟨k + 1, cs, by omega, by go_num, hE, HD2, hT⟩
               case measure => simp [intOf]; omega
         · have hk1 : ¬ (k : Int) < (n : Int) := by omega
           obtain rfl : n = k := by omega
           have HNU : Hid (Nums wr (.slice (some ⟨C, 0, none⟩) n n) cs) := by
             have h2 := nums_block (cap := n) hT.out.1
             rw [hE.out.len, HN.out] at h2
             exact h2
           have HQ : Hid (∀ vs ec, CstAns cs vs ec → QQ vs ec) := fun vs ec h9 => HGOAL.out cs vs ec hE.out hD.out h9
           go_wp2_with (first
             | (go_at_call 27; (with_reducible refine (costs_any _ cs _ HNU.out (by rw [hE.out.len, HN.out]; omega)).mono ?_); rintro e w9 ⟨vr, vs, ec, rfl, hA, hNu, hb⟩; have HA := hidP hA; have HNu := hidP hNu; have HB9 := hidP hb; clear hA hNu hb))
           go_ret2
           exact ⟨_, vs, ec, rfl, HQ.out vs ec HA.out, HNu.out, hT.out.2.2.1.trans (HB9.out.mono hT.out.2.2.1.size)⟩
theorem farFrom_any (v : Value) (m : Mc) (w : World) (h : Mach w v m) (hok : okM m) :
    Calls Try.prog 11 #[v] w fun e w' => LstRes (DstAns m (FarC m.1 m.2)) w e w' := by
  by_cases hr : faultM m = 0
  · exact farFrom_ok v m w h hok hr
  · exact farFrom_bad v m w h hok hr
end Go.Proofs.Ytibafdehgmalgaa.Wt
