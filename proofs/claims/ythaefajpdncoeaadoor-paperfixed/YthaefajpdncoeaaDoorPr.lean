/- The reference: a machine as a text. -/
import Derived.Test.YthaefajpdncoeaaDoorPlainPc
import Derived.Test.YthaefajpdncoeaaDoorMcR
import Derived.Test.YthaefajpdncoeaaDoorShR
import Derived.Test.YthaefajpdncoeaaDoorRg
import Derived.Test.YthaefajpdncoeaaDoorBlk
namespace Go.Proofs.YthaefajpdncoeaaDoor.Pl
theorem textS_app (a b : List UInt8) : textS a ++ textS b = textS (a ++ b) := by
  apply bytes_inj2
  simp [textS]
theorem fin_show {f : Int} (h : finB f = true) : Wt.showR f = (textS (finT f), 0) := by
  by_cases e : f = 1000000001
  · subst e; rw [Wt.showR_inf]; rfl
  · simp [finB, inB, e] at h
    rw [Wt.showR_num (wtB_true.2 (.inr h)) e]
    unfold finT decT
    rw [if_neg e]
    have : Lib.itoa f = Lib.decDigits f.toNat := by
      obtain ⟨u, rfl⟩ := Int.eq_ofNat_of_zero_le h.1
      unfold Lib.itoa; rw [if_neg (by omega)]
    rw [this]; rfl
/-- The text of the first k states. -/
def textTk (z : Int) (l : List St) (k : Nat) : List UInt8 := headT z ++ (l.take k).flatMap txtS
def textTa (z : Int) (l : List St) (k j : Nat) : List UInt8 := textTk z l k ++ stT (el l k).1 ++ ((el l k).2.take j).flatMap arcT
theorem textTk_all (z : Int) (l : List St) : textTk z l l.length = textM (z, l) := by unfold textTk; rw [List.take_length, textM_eq]
theorem textTk_succ {z : Int} {l : List St} {k : Nat} (h : k < l.length) : textTk z l (k + 1) = textTa z l k (el l k).2.length := by
  unfold textTk textTa textTk
  rw [states_take h, List.take_length]
  simp [txtS]
theorem textTa_succ {z : Int} {l : List St} {k j : Nat} (h : j < (el l k).2.length) : textTa z l k (j + 1) = textTa z l k j ++ arcT (el (el l k).2 j) := by
  unfold textTa
  rw [arcs_take h]
  simp
theorem textTa_zero (z : Int) (l : List St) (k : Nat) : textTa z l k 0 = textTk z l k ++ stT (el l k).1 := by simp [textTa]
theorem textM_short {z : Int} {l : List St} (h : faultM (z, l) = 0) : (textM (z, l)).length ≤ 20000 := by
  have h1 := right_size h
  have h2 := (faultM_zero h).2
  simp only [rangeB, Bool.and_eq_true, inB, decide_eq_true_eq] at h2
  rw [textM_eq, List.length_append]
  have h3 := headT_short (z := z) (by omega)
  have h4 := states_short h1.1 (l := l) (fun s hs => by
    obtain ⟨j, hj, rfl⟩ := mem_el hs
    have h5 := right_st h hj
    exact ⟨h5.1, fun a ha => List.all_eq_true.1 h5.2 a ha⟩)
  simp only
  omega
theorem textTa_le {z : Int} {l : List St} {k j : Nat} (hk : k < l.length) : (textTa z l k j).length ≤ (textM (z, l)).length := by
  have h1 : (textTa z l k j).length ≤ (textTa z l k (el l k).2.length).length := by
    unfold textTa
    rw [List.length_append, List.length_append (bs := ((el l k).2.take (el l k).2.length).flatMap arcT), List.take_length]
    have : (((el l k).2.take j).flatMap arcT).length ≤ ((el l k).2.flatMap arcT).length := by
      conv => rhs; rw [← List.take_append_drop j (el l k).2, List.flatMap_append, List.length_append]
      omega
    omega
  rw [← textTk_succ hk] at h1
  refine Nat.le_trans h1 ?_
  rw [← textTk_all]
  unfold textTk
  rw [List.length_append, List.length_append, List.take_length]
  have : ((l.take (k + 1)).flatMap txtS).length ≤ (l.flatMap txtS).length := by
    conv => rhs; rw [← List.take_append_drop (k + 1) l, List.flatMap_append, List.length_append]
    omega
  omega
theorem textTk_le {z : Int} {l : List St} {k : Nat} (hk : k < l.length) : (textTk z l k).length ≤ (textM (z, l)).length := by
  have h1 := textTa_le (z := z) (j := 0) hk
  rw [textTa_zero, List.length_append] at h1
  omega
end Go.Proofs.YthaefajpdncoeaaDoor.Pl
namespace Go.Proofs.YthaefajpdncoeaaDoor.Wt
open Go.ChangeShapes Go.WideShapes Go.ChangeAt Go.RowKit
open Go.Proofs.YthaefajpdncoeaaDoor.Pl
set_option linter.unusedVariables false
set_option linter.unusedSimpArgs false
theorem dec_t (n : Int) (w : World) (h0 : 0 ≤ n) (h1 : n ≤ 2000000000) :
    Calls Tryd.prog 20 #[.int .i64 n] w fun e w' => e = .returned (.string (textS (decT n))) ∧ Below w.heap.size w w' := by
  refine dec_any n w h0 (by omega) _ ?_
  obtain ⟨u, rfl⟩ := Int.eq_ofNat_of_zero_le h0
  have : Lib.itoa (u : Int) = Lib.decDigits u := by unfold Lib.itoa; rw [if_neg (by omega)]; simp
  show ByteArray.mk (Lib.itoa (u : Int)).toArray = _
  rw [this]; rfl
/-- An arc's cells. -/
def HeldQ (b o : Nat) (x0 x1 x2 x3 : Int) (w : World) : Prop := w.cell? ⟨b, o, none⟩ = some (.int .i64 x0) ∧ w.cell? ⟨b, o + 1, none⟩ = some (.int .i64 x1) ∧ w.cell? ⟨b, o + 2, none⟩ = some (.int .i64 x2) ∧ w.cell? ⟨b, o + 3, none⟩ = some (.int .i64 x3)
theorem HeldQ.later {b o : Nat} {x0 x1 x2 x3 : Int} {w w' : World} {B : Nat} (h : HeldQ b o x0 x1 x2 x3 w) (hb : Below B w w') (hB : b < B) : HeldQ b o x0 x1 x2 x3 w' := ⟨(hb.cell (p := ⟨b, o, none⟩) hB).trans h.1, (hb.cell (p := ⟨b, o + 1, none⟩) hB).trans h.2.1, (hb.cell (p := ⟨b, o + 2, none⟩) hB).trans h.2.2.1, (hb.cell (p := ⟨b, o + 3, none⟩) hB).trans h.2.2.2⟩
set_option maxRecDepth 100000 in
set_option maxHeartbeats 3200000 in
theorem shownR_okN (z : Int) (l : List St) (vs : Value) (w : World) (h : Mach w (.agg #[.int .i64 z, vs]) (z, l)) (hok : okM (z, l)) (hr : faultM (z, l) = 0) (hz0 : z < 0) :
    Calls Tryd.prog 9 #[.agg #[.int .i64 z, vs]] w fun e w' => e = .returned (.tuple #[.string (textS (textM (z, l))), .int .i64 0]) ∧ Below w.heap.size w w' := by
  have HM : Hid (Mach w (.agg #[.int .i64 z, vs]) (z, l)) := h
  have HK : Hid (okM (z, l)) := hok
  have HR : Hid (faultM (z, l) = 0) := hr
  have hz := (faultM_zero hr).2
  simp only [rangeB, Bool.and_eq_true, inB, decide_eq_true_eq] at hz
  have hz1 : -1 ≤ z := hz.1.1
  have h60 := (right_size hr).1
  have hz2 : z ≤ 60 := by omega
  obtain ⟨vs', hvs, hS⟩ := h
  simp only [Value.agg.injEq, Array.mk.injEq, List.cons.injEq, and_true, true_and] at hvs
  subst hvs
  obtain ⟨a, cap, rfl, hc⟩ := hS.get
  have HC : Hid (∀ j, j < l.length → ∃ b off va, a = some ⟨b, off, none⟩ ∧ b < w.heap.size ∧ w.cell? ⟨b, off + j * 2, none⟩ = some (.int .i64 (el l j).1) ∧ w.cell? ⟨b, off + j * 2 + 1, none⟩ = some va ∧ Arcs w va (el l j).2) := hc
  have HST : Hid (∀ j, j < l.length → finB (el l j).1 = true ∧ (el l j).2.all (arcB l.length) = true ∧ (el l j).2.length ≤ 400) := fun j hj => ⟨(right_st hr hj).1, (right_st hr hj).2, by
    have h1 := arcN_take hj
    have h2 : arcN (l.take (j + 1)) ≤ arcN l := by
      conv => rhs; rw [← List.take_append_drop (j + 1) l, arcN_append]
      omega
    have h3 := (right_size hr).2
    omega⟩
  have hts := textM_short hr
  have HTA : Hid (∀ k j, k < l.length → (textTa z l k j).length ≤ 20000) := fun k j hk => Nat.le_trans (textTa_le hk) hts
  have HTK : Hid (∀ k, k < l.length → (textTk z l k).length ≤ 20000) := fun k hk => Nat.le_trans (textTk_le hk) hts
  have HTN : Hid (textTk z l l.length = textM (z, l)) := textTk_all z l
  have HTS : Hid (∀ k, k < l.length → textTk z l (k + 1) = textTa z l k (el l k).2.length) := fun k hk => textTk_succ hk
  have HD1 : Hid (∀ W : World, 0 ≤ z → Calls Tryd.prog 20 #[.int .i64 z] W fun e w' => e = .returned (.string (textS (decT z))) ∧ Below W.heap.size W w') := fun W h0 => dec_t z W h0 (by omega)
  have HZ0 : Hid (z < 0 → textTk z l 0 = [115, 116, 97, 114, 116, 32, 45, 10]) := fun h0 => by
    show headT z ++ _ = _
    rw [headT_eq, startT, if_pos h0]; simp
  have HZ1 : Hid (0 ≤ z → (⟨#[115, 116, 97, 114, 116, 32]⟩ : ByteArray) ++ textS (decT z) ++ ⟨#[10]⟩ = textS (textTk z l 0)) := fun h0 => by
    show textS [115, 116, 97, 114, 116, 32] ++ textS (decT z) ++ textS [10] = textS (headT z ++ _)
    rw [headT_eq, startT, if_neg (by omega), textS_app, textS_app]; simp
  have hdz : (textS (decT z)).size ≤ 10 := dec_short (by omega)
  clear hS hc hr hz hok hts
  generalize hn : l.length = n at *
  have HN : Hid (l.length = n) := hn
  clear hn
  generalize textM (z, l) = TM at *
  generalize textS (decT z) = DZ at *
  go_enter Tryd.func9, Tryd.ntmps9
  go_wp2_with (first
    | (go_at_call 19; (with_reducible refine (fault_any _ (z, l) _ (HM.out.later (B := w.heap.size) (by go_grown) (Nat.le_refl _)) HK.out 0 HR.out).mono ?_); rintro e w1 ⟨rfl, hb⟩; obtain ⟨s1, b1, hb1⟩ := boxed hb (by simp); have HB1 : Hid (Below w.heap.size w w1) := hb1; have K1 : Hid (Blk w1 w.heap.size #[.int .i64 z, .slice a n cap] 24) := b1; have c0 := b1.cell 0 (v := .int .i64 z) rfl; clear b1 hb1 hb)
    | (go_at_call 20; (with_reducible refine (HD1.out _ (by omega)).mono ?_); rintro e w2 ⟨rfl, hb⟩; have HB2 : Hid (Below w.heap.size w w2) := HB1.out.trans (hb.mono HB1.out.size); have K2 : Hid (Blk w2 w.heap.size #[.int .i64 z, .slice a n cap] 24) := K1.out.below hb K1.out.lt; clear hb))
  go_loopw [5, 6] (fun s5 i wr => ∃ (k : Nat), k ≤ n ∧ s5 = .string (textS (textTk z l k)) ∧ i = .int .i64 k ∧ Hid (Blk wr w.heap.size #[.int .i64 z, .slice a n cap] 24) ∧ Hid (Below w.heap.size w wr)) (fun _ i _ => n - (intOf i).toNat)
  case atStart =>
    first
      | exact ⟨0, Nat.zero_le _, by rw [HZ0.out (by omega)]; rfl, rfl, K1, HB1⟩
      | exact ⟨0, Nat.zero_le _, by rw [HZ1.out (by omega)], rfl, K2, HB2⟩
  case round =>
    clear HZ0 HZ1 HD1 hdz
    obtain ⟨k, hk, rfl, rfl, hbx, hb⟩ := hrel
    have c1 := hbx.out.cell 1 (v := .slice a n cap) rfl
    by_cases hkn : k < n
    · obtain ⟨b, off, va, rfl, hbl, g0, g1, gA⟩ := HC.out k hkn
      obtain ⟨a2, cap2, hva, hga⟩ := gA.get
      subst hva
      have G1 : Hid (w.cell? ⟨b, off + k * 2 + 1, none⟩ = some (.slice a2 (el l k).2.length cap2)) := g1
      have g0 := (hb.out.cell (p := ⟨b, off + k * 2, none⟩) hbl).trans g0
      have HGA : Hid (∀ j, j < (el l k).2.length → ∃ b off, a2 = some ⟨b, off, none⟩ ∧ b < w.heap.size ∧ w.cell? ⟨b, off + j * 4, none⟩ = some (.int .i64 (el (el l k).2 j).1) ∧ w.cell? ⟨b, off + j * 4 + 1, none⟩ = some (.int .i64 (el (el l k).2 j).2.1) ∧ w.cell? ⟨b, off + j * 4 + 2, none⟩ = some (.int .i64 (el (el l k).2 j).2.2.1) ∧ w.cell? ⟨b, off + j * 4 + 3, none⟩ = some (.int .i64 (el (el l k).2 j).2.2.2)) := hga
      obtain ⟨hfin, harc, hL4⟩ := HST.out k hkn
      have HAR : Hid ((el l k).2.all (arcB n) = true) := harc
      have HWS : Hid (∀ W : World, Calls Tryd.prog 21 #[.int .i64 (el l k).1] W fun e w' => e = .returned (.tuple #[.string (textS (finT (el l k).1)), .int .i64 0]) ∧ Below W.heap.size W w') := fun W => by
        have h9 := weightShown_any (el l k).1 W
        rw [fin_show hfin] at h9
        exact h9
      have hfs : (textS (finT (el l k).1)).size ≤ 10 := fin_short hfin
      have hks : (textS (textTk z l k)).size ≤ 20000 := HTK.out k hkn
      have HT0 : Hid (textS (textTk z l k) ++ ⟨#[115, 116, 97, 116, 101, 32]⟩ ++ textS (finT (el l k).1) ++ ⟨#[10]⟩ = textS (textTa z l k 0)) := by
        show textS (textTk z l k) ++ textS [115, 116, 97, 116, 101, 32] ++ textS (finT (el l k).1) ++ textS [10] = _
        rw [textTa_zero, stT_eq, textS_app, textS_app, textS_app]; simp
      have HTJ : Hid (∀ j, j < (el l k).2.length → textTa z l k (j + 1) = textTa z l k j ++ arcT (el (el l k).2 j)) := fun j hj => textTa_succ hj
      have HTE : Hid (textTk z l (k + 1) = textTa z l k (el l k).2.length) := HTS.out k hkn
      have HTB : Hid (∀ j, (textTa z l k j).length ≤ 20000) := fun j => HTA.out k j hkn
      clear g1 gA hga harc hfin
      generalize textS (finT (el l k).1) = FT at *
      generalize (el l k).1 = fin at *
      generalize (el l k).2 = ar at *
      generalize textTa z l k = TA at *
      generalize hL : ar.length = L at *
      have HL : Hid (ar.length = L) := hL
      clear hL
      generalize textS (textTk z l k) = AC at *
      have hk0 : (0 : Int) ≤ (k : Int) := by omega
      have hk1 : (k : Int) < (n : Int) := by omega
      have n1 : ¬ 9223372036854775807 < AC.size + 6 := by omega
      have n2 : ¬ 9223372036854775807 < AC.size + 6 + FT.size := by omega
      have n3 : ¬ 9223372036854775807 < AC.size + 6 + FT.size + 1 := by omega
      go_wp2_with (first
        | (go_at_call 21; (with_reducible refine (HWS.out _).mono ?_); rintro e w3 ⟨rfl, hb3⟩; have HB3 : Hid (Below w.heap.size w w3) := hb.out.trans (hb3.mono hb.out.size); have K3 : Hid (Blk w3 w.heap.size #[.int .i64 z, .slice (some ⟨b, off, none⟩) n cap] 24) := hbx.out.below hb3 hbx.out.lt; have c3 := K3.out.cell 1 (v := .slice (some ⟨b, off, none⟩) n cap) rfl; have g3 := (HB3.out.cell (p := ⟨b, off + k * 2 + 1, none⟩) hbl).trans G1.out; clear hb3))
      go_loopw [5, 10] (fun s5 i wr => ∃ (j : Nat), j ≤ L ∧ s5 = .string (textS (TA j)) ∧ i = .int .i64 j ∧ Hid (Blk wr w.heap.size #[.int .i64 z, .slice (some ⟨b, off, none⟩) n cap] 24) ∧ Hid (Below w.heap.size w wr)) (fun _ i _ => L - (intOf i).toNat)
      case atStart => exact ⟨0, Nat.zero_le _, by rw [HT0.out], rfl, K3, HB3⟩
      case round =>
        clear HT0 HWS K3 HB3 c3 g3 c1 g0 hbx hb
        obtain ⟨j, hj, rfl, rfl, hbx, hb⟩ := hrel
        by_cases hjL : j < L
        · obtain ⟨b3, off3, rfl, hb3l, e0, e1, e2, e3⟩ := HGA.out j hjL
          have hcar := List.all_eq_true.1 HAR.out (el ar j) (el_mem (by rw [HL.out]; exact hjL))
          have hcb := hcar
          simp only [arcB, inB, Bool.and_eq_true, decide_eq_true_eq] at hcb
          have HJ := HTJ.out j hjL
          rw [arcT_eq] at HJ
          have hjs : (textS (TA j)).size ≤ 20000 := HTB.out j
          generalize el ar j = c at *
          generalize hx0 : c.1 = x0 at *
          generalize hx1 : c.2.1 = x1 at *
          generalize hx2 : c.2.2.1 = x2 at *
          generalize hx3 : c.2.2.2 = x3 at *
          have hr0 : 0 ≤ x0 ∧ x0 ≤ 1000000000 := by omega
          have hr1 : 0 ≤ x1 ∧ x1 ≤ 1000000000 := by omega
          have hr2 : 0 ≤ x2 ∧ x2 ≤ 1000000000 := by omega
          have hr3 : 0 ≤ x3 ∧ x3 ≤ 1000000000 := by omega
          clear hx0 hx1 hx2 hx3 hcar hcb
          have E0 : Hid (∀ W : World, Calls Tryd.prog 20 #[.int .i64 x0] W fun e w' => e = .returned (.string (textS (decT x0))) ∧ Below W.heap.size W w') := fun W => dec_t x0 W hr0.1 (by omega)
          have E1 : Hid (∀ W : World, Calls Tryd.prog 20 #[.int .i64 x1] W fun e w' => e = .returned (.string (textS (decT x1))) ∧ Below W.heap.size W w') := fun W => dec_t x1 W hr1.1 (by omega)
          have E2 : Hid (∀ W : World, Calls Tryd.prog 20 #[.int .i64 x2] W fun e w' => e = .returned (.string (textS (decT x2))) ∧ Below W.heap.size W w') := fun W => dec_t x2 W hr2.1 (by omega)
          have E3 : Hid (∀ W : World, Calls Tryd.prog 20 #[.int .i64 x3] W fun e w' => e = .returned (.string (textS (decT x3))) ∧ Below W.heap.size W w') := fun W => dec_t x3 W hr3.1 (by omega)
          have l0 : (textS (decT x0)).size ≤ 10 := dec_short (by omega)
          have l1 : (textS (decT x1)).size ≤ 10 := dec_short (by omega)
          have l2 : (textS (decT x2)).size ≤ 10 := dec_short (by omega)
          have l3 : (textS (decT x3)).size ≤ 10 := dec_short (by omega)
          have HJ2 : Hid (textS (TA j) ++ ⟨#[97, 114, 99, 32]⟩ ++ textS (decT x3) ++ ⟨#[32]⟩ ++ textS (decT x0) ++ ⟨#[32]⟩ ++ textS (decT x1) ++ ⟨#[32]⟩ ++ textS (decT x2) ++ ⟨#[10]⟩ = textS (TA (j + 1))) := by
            show textS (TA j) ++ textS [97, 114, 99, 32] ++ textS (decT x3) ++ textS [32] ++ textS (decT x0) ++ textS [32] ++ textS (decT x1) ++ textS [32] ++ textS (decT x2) ++ textS [10] = _
            rw [HJ]
            simp only [textS_app, List.append_assoc]
          clear HJ
          generalize textS (decT x0) = D0 at *
          generalize textS (decT x1) = D1 at *
          generalize textS (decT x2) = D2 at *
          generalize textS (decT x3) = D3 at *
          generalize textS (TA j) = AC2 at *
          have hj0 : (0 : Int) ≤ (j : Int) := by omega
          have hj1 : (j : Int) < (L : Int) := by omega
          have HS0 : HeldQ b3 (off3 + j * 4) x0 x1 x2 x3 wr := ⟨(hb.out.cell (p := ⟨b3, off3 + j * 4, none⟩) hb3l).trans e0, (hb.out.cell (p := ⟨b3, off3 + j * 4 + 1, none⟩) hb3l).trans e1, (hb.out.cell (p := ⟨b3, off3 + j * 4 + 2, none⟩) hb3l).trans e2, (hb.out.cell (p := ⟨b3, off3 + j * 4 + 3, none⟩) hb3l).trans e3⟩
          clear e0 e1 e2 e3
          have m1 : ¬ 9223372036854775807 < AC2.size + 4 := by omega
          have m2 : ¬ 9223372036854775807 < AC2.size + 4 + D3.size := by omega
          have m3 : ¬ 9223372036854775807 < AC2.size + 4 + D3.size + 1 := by omega
          have m4 : ¬ 9223372036854775807 < AC2.size + 4 + D3.size + 1 + D0.size := by omega
          have m5 : ¬ 9223372036854775807 < AC2.size + 4 + D3.size + 1 + D0.size + 1 := by omega
          have m6 : ¬ 9223372036854775807 < AC2.size + 4 + D3.size + 1 + D0.size + 1 + D1.size := by omega
          have m7 : ¬ 9223372036854775807 < AC2.size + 4 + D3.size + 1 + D0.size + 1 + D1.size + 1 := by omega
          have m8 : ¬ 9223372036854775807 < AC2.size + 4 + D3.size + 1 + D0.size + 1 + D1.size + 1 + D2.size := by omega
          have m9 : ¬ 9223372036854775807 < AC2.size + 4 + D3.size + 1 + D0.size + 1 + D1.size + 1 + D2.size + 1 := by omega
          go_wp2
          have HBD : Hid (Below w.heap.size w wr.drew) := hb.out.drew
          have HXD : Hid (Blk wr.drew w.heap.size #[.int .i64 z, .slice (some ⟨b, off, none⟩) n cap] 24) := hbx.out.drew
          have HSD : HeldQ b3 (off3 + j * 4) x0 x1 x2 x3 wr.drew := HS0
          refine region_anyL (HeldQ b3 (off3 + j * 4) x0 x1 x2 x3) 1000 (by kernel_rfl) ?_
          generalize wr.drew = W0 at *
          refine anyL_take (i := 0) (v := ?v0_1) at0 (by kernel_rfl) (by kernel_rfl) (by kernel_rfl) (by kernel_rfl) (fun _ _ _ h => h) rfl ?y0_1 HSD ?r0_1
          case y0_1 => intro wx hx; obtain ⟨h1, h2, h3, h4⟩ := hx; go_simp; try (with_reducible rfl)
          simp only [Act.put, List.setIfInBounds_toArray, List.set_cons_zero, List.set_cons_succ]
          refine anyL_take (i := 1) (v := ?v1_2) (atS at0) (by kernel_rfl) (by kernel_rfl) (by kernel_rfl) (by kernel_rfl) (fun _ _ _ h => h) rfl ?y1_2 HSD ?r1_2
          case y1_2 => intro wx hx; obtain ⟨h1, h2, h3, h4⟩ := hx; go_simp; try (with_reducible rfl)
          simp only [Act.put, List.setIfInBounds_toArray, List.set_cons_zero, List.set_cons_succ]
          refine anyL_take (i := 2) (v := ?v2_3) (atS (atS at0)) (by kernel_rfl) (by kernel_rfl) (by kernel_rfl) (by kernel_rfl) (fun _ _ _ h => h) rfl ?y2_3 HSD ?r2_3
          case y2_3 => intro wx hx; obtain ⟨h1, h2, h3, h4⟩ := hx; go_simp; try (with_reducible rfl)
          simp only [Act.put, List.setIfInBounds_toArray, List.set_cons_zero, List.set_cons_succ]
          refine anyL_take (i := 3) (v := ?v3_4) (atS (atS (atS at0))) (by kernel_rfl) (by kernel_rfl) (by kernel_rfl) (by kernel_rfl) (fun _ _ _ h => h) rfl ?y3_4 HSD ?r3_4
          case y3_4 => intro wx hx; obtain ⟨h1, h2, h3, h4⟩ := hx; go_simp; try (with_reducible rfl)
          simp only [Act.put, List.setIfInBounds_toArray, List.set_cons_zero, List.set_cons_succ]
          refine anyL_take (i := 4) (v := ?v4_5) (atS (atS (atS (atS at0)))) (by kernel_rfl) (by kernel_rfl) (by kernel_rfl) (by kernel_rfl) (fun _ _ _ h => h) rfl ?y4_5 HSD ?r4_5
          case y4_5 => intro wx hx; obtain ⟨h1, h2, h3, h4⟩ := hx; go_simp; try (with_reducible rfl)
          simp only [Act.put, List.setIfInBounds_toArray, List.set_cons_zero, List.set_cons_succ]
          refine anyL_take (i := 5) (v := ?v5_6) (atS (atS (atS (atS (atS at0))))) (by kernel_rfl) (by kernel_rfl) (by kernel_rfl) (by kernel_rfl) (fun _ _ _ h => h) rfl ?y5_6 HSD ?r5_6
          case y5_6 => intro wx hx; obtain ⟨h1, h2, h3, h4⟩ := hx; go_simp; try (with_reducible rfl)
          simp only [Act.put, List.setIfInBounds_toArray, List.set_cons_zero, List.set_cons_succ]
          refine anyL_take (i := 6) (v := ?v6_7) (atS (atS (atS (atS (atS (atS at0)))))) (by kernel_rfl) (by kernel_rfl) (by kernel_rfl) (by kernel_rfl) (fun _ _ _ h => h) rfl ?y6_7 HSD ?r6_7
          case y6_7 => intro wx hx; obtain ⟨h1, h2, h3, h4⟩ := hx; go_simp; try (with_reducible rfl)
          simp only [Act.put, List.setIfInBounds_toArray, List.set_cons_zero, List.set_cons_succ]
          refine anyL_take (i := 10) (v := ?v10_8) (atS (atS (atS (atS (atS (atS (atS (atS (atS (atS at0)))))))))) (by kernel_rfl) (by kernel_rfl) (by kernel_rfl) (by kernel_rfl) (fun _ _ _ h => h) rfl ?y10_8 HSD ?r10_8
          case y10_8 => intro wx hx; obtain ⟨h1, h2, h3, h4⟩ := hx; go_simp; try (with_reducible rfl)
          simp only [Act.put, List.setIfInBounds_toArray, List.set_cons_zero, List.set_cons_succ]
          refine anyL_take (i := 11) (v := ?v11_9) (atS (atS (atS (atS (atS (atS (atS (atS (atS (atS (atS at0))))))))))) (by kernel_rfl) (by kernel_rfl) (by kernel_rfl) (by kernel_rfl) (fun _ _ _ h => h) rfl ?y11_9 HSD ?r11_9
          case y11_9 => intro wx hx; obtain ⟨h1, h2, h3, h4⟩ := hx; go_simp; try (with_reducible rfl)
          simp only [Act.put, List.setIfInBounds_toArray, List.set_cons_zero, List.set_cons_succ]
          refine anyL_take (i := 12) (v := ?v12_10) (atS (atS (atS (atS (atS (atS (atS (atS (atS (atS (atS (atS at0)))))))))))) (by kernel_rfl) (by kernel_rfl) (by kernel_rfl) (by kernel_rfl) (fun _ _ _ h => h) rfl ?y12_10 HSD ?r12_10
          case y12_10 => intro wx hx; obtain ⟨h1, h2, h3, h4⟩ := hx; go_simp; try (with_reducible rfl)
          simp only [Act.put, List.setIfInBounds_toArray, List.set_cons_zero, List.set_cons_succ]
          refine anyL_take (i := 13) (v := ?v13_11) (atS (atS (atS (atS (atS (atS (atS (atS (atS (atS (atS (atS (atS at0))))))))))))) (by kernel_rfl) (by kernel_rfl) (by kernel_rfl) (by kernel_rfl) (fun _ _ _ h => h) rfl ?y13_11 HSD ?r13_11
          case y13_11 => intro wx hx; obtain ⟨h1, h2, h3, h4⟩ := hx; go_simp; try (with_reducible rfl)
          simp only [Act.put, List.setIfInBounds_toArray, List.set_cons_zero, List.set_cons_succ]
          refine anyL_take (i := 14) (v := ?v14_12) (atS (atS (atS (atS (atS (atS (atS (atS (atS (atS (atS (atS (atS (atS at0)))))))))))))) (by kernel_rfl) (by kernel_rfl) (by kernel_rfl) (by kernel_rfl) (fun _ _ _ h => h) rfl ?y14_12 HSD ?r14_12
          case y14_12 => intro wx hx; obtain ⟨h1, h2, h3, h4⟩ := hx; go_simp; try (with_reducible rfl)
          simp only [Act.put, List.setIfInBounds_toArray, List.set_cons_zero, List.set_cons_succ]
          refine anyL_take (i := 18) (v := ?v18_13) (atS (atS (atS (atS (atS (atS (atS (atS (atS (atS (atS (atS (atS (atS (atS (atS (atS (atS at0)))))))))))))))))) (by kernel_rfl) (by kernel_rfl) (by kernel_rfl) (by kernel_rfl) (fun _ _ _ h => h) rfl ?y18_13 HSD ?r18_13
          case y18_13 => intro wx hx; obtain ⟨h1, h2, h3, h4⟩ := hx; go_simp; try (with_reducible rfl)
          simp only [Act.put, List.setIfInBounds_toArray, List.set_cons_zero, List.set_cons_succ]
          refine anyL_take (i := 19) (v := ?v19_14) (atS (atS (atS (atS (atS (atS (atS (atS (atS (atS (atS (atS (atS (atS (atS (atS (atS (atS (atS at0))))))))))))))))))) (by kernel_rfl) (by kernel_rfl) (by kernel_rfl) (by kernel_rfl) (fun _ _ _ h => h) rfl ?y19_14 HSD ?r19_14
          case y19_14 => intro wx hx; obtain ⟨h1, h2, h3, h4⟩ := hx; go_simp; try (with_reducible rfl)
          simp only [Act.put, List.setIfInBounds_toArray, List.set_cons_zero, List.set_cons_succ]
          refine anyL_take (i := 20) (v := ?v20_15) (atS (atS (atS (atS (atS (atS (atS (atS (atS (atS (atS (atS (atS (atS (atS (atS (atS (atS (atS (atS at0)))))))))))))))))))) (by kernel_rfl) (by kernel_rfl) (by kernel_rfl) (by kernel_rfl) (fun _ _ _ h => h) rfl ?y20_15 HSD ?r20_15
          case y20_15 => intro wx hx; obtain ⟨h1, h2, h3, h4⟩ := hx; go_simp; try (with_reducible rfl)
          simp only [Act.put, List.setIfInBounds_toArray, List.set_cons_zero, List.set_cons_succ]
          refine anyL_take (i := 21) (v := ?v21_16) (atS (atS (atS (atS (atS (atS (atS (atS (atS (atS (atS (atS (atS (atS (atS (atS (atS (atS (atS (atS (atS at0))))))))))))))))))))) (by kernel_rfl) (by kernel_rfl) (by kernel_rfl) (by kernel_rfl) (fun _ _ _ h => h) rfl ?y21_16 HSD ?r21_16
          case y21_16 => intro wx hx; obtain ⟨h1, h2, h3, h4⟩ := hx; go_simp; try (with_reducible rfl)
          simp only [Act.put, List.setIfInBounds_toArray, List.set_cons_zero, List.set_cons_succ]
          refine anyL_take (i := 22) (v := ?v22_17) (atS (atS (atS (atS (atS (atS (atS (atS (atS (atS (atS (atS (atS (atS (atS (atS (atS (atS (atS (atS (atS (atS at0)))))))))))))))))))))) (by kernel_rfl) (by kernel_rfl) (by kernel_rfl) (by kernel_rfl) (fun _ _ _ h => h) rfl ?y22_17 HSD ?r22_17
          case y22_17 => intro wx hx; obtain ⟨h1, h2, h3, h4⟩ := hx; go_simp; try (with_reducible rfl)
          simp only [Act.put, List.setIfInBounds_toArray, List.set_cons_zero, List.set_cons_succ]
          refine anyL_take (i := 26) (v := ?v26_18) (atS (atS (atS (atS (atS (atS (atS (atS (atS (atS (atS (atS (atS (atS (atS (atS (atS (atS (atS (atS (atS (atS (atS (atS (atS (atS at0)))))))))))))))))))))))))) (by kernel_rfl) (by kernel_rfl) (by kernel_rfl) (by kernel_rfl) (fun _ _ _ h => h) rfl ?y26_18 HSD ?r26_18
          case y26_18 => intro wx hx; obtain ⟨h1, h2, h3, h4⟩ := hx; go_simp; try (with_reducible rfl)
          simp only [Act.put, List.setIfInBounds_toArray, List.set_cons_zero, List.set_cons_succ]
          refine anyL_take (i := 27) (v := ?v27_19) (atS (atS (atS (atS (atS (atS (atS (atS (atS (atS (atS (atS (atS (atS (atS (atS (atS (atS (atS (atS (atS (atS (atS (atS (atS (atS (atS at0))))))))))))))))))))))))))) (by kernel_rfl) (by kernel_rfl) (by kernel_rfl) (by kernel_rfl) (fun _ _ _ h => h) rfl ?y27_19 HSD ?r27_19
          case y27_19 => intro wx hx; obtain ⟨h1, h2, h3, h4⟩ := hx; go_simp; try (with_reducible rfl)
          simp only [Act.put, List.setIfInBounds_toArray, List.set_cons_zero, List.set_cons_succ]
          refine anyL_take (i := 28) (v := ?v28_20) (atS (atS (atS (atS (atS (atS (atS (atS (atS (atS (atS (atS (atS (atS (atS (atS (atS (atS (atS (atS (atS (atS (atS (atS (atS (atS (atS (atS at0)))))))))))))))))))))))))))) (by kernel_rfl) (by kernel_rfl) (by kernel_rfl) (by kernel_rfl) (fun _ _ _ h => h) rfl ?y28_20 HSD ?r28_20
          case y28_20 => intro wx hx; obtain ⟨h1, h2, h3, h4⟩ := hx; go_simp; try (with_reducible rfl)
          simp only [Act.put, List.setIfInBounds_toArray, List.set_cons_zero, List.set_cons_succ]
          refine anyL_take (i := 29) (v := ?v29_21) (atS (atS (atS (atS (atS (atS (atS (atS (atS (atS (atS (atS (atS (atS (atS (atS (atS (atS (atS (atS (atS (atS (atS (atS (atS (atS (atS (atS (atS at0))))))))))))))))))))))))))))) (by kernel_rfl) (by kernel_rfl) (by kernel_rfl) (by kernel_rfl) (fun _ _ _ h => h) rfl ?y29_21 HSD ?r29_21
          case y29_21 => intro wx hx; obtain ⟨h1, h2, h3, h4⟩ := hx; go_simp; try (with_reducible rfl)
          simp only [Act.put, List.setIfInBounds_toArray, List.set_cons_zero, List.set_cons_succ]
          refine anyL_take (i := 30) (v := ?v30_22) (atS (atS (atS (atS (atS (atS (atS (atS (atS (atS (atS (atS (atS (atS (atS (atS (atS (atS (atS (atS (atS (atS (atS (atS (atS (atS (atS (atS (atS (atS at0)))))))))))))))))))))))))))))) (by kernel_rfl) (by kernel_rfl) (by kernel_rfl) (by kernel_rfl) (fun _ _ _ h => h) rfl ?y30_22 HSD ?r30_22
          case y30_22 => intro wx hx; obtain ⟨h1, h2, h3, h4⟩ := hx; go_simp; try (with_reducible rfl)
          simp only [Act.put, List.setIfInBounds_toArray, List.set_cons_zero, List.set_cons_succ]
          refine anyL_one (i := 7) (atS (atS (atS (atS (atS (atS (atS at0))))))) (by kernel_rfl) rfl (fun K hK => ?_)
          go_simp
          refine (E3.out _).mono ?_
          rintro e w3 ⟨rfl, hbc⟩
          have HS3 : HeldQ b3 (off3 + j * 4) x0 x1 x2 x3 w3 := HSD.later hbc (Nat.lt_of_lt_of_le hb3l HBD.out.size)
          have HB3 : Hid (Below w.heap.size w w3) := HBD.out.trans (hbc.mono HBD.out.size)
          have HX3 : Hid (Blk w3 w.heap.size #[.int .i64 z, .slice (some ⟨b, off, none⟩) n cap] 24) := HXD.out.below hbc HXD.out.lt
          refine hK _ _ (.inr HS3) ?_
          try simp only [Act.put, List.setIfInBounds_toArray, List.set_cons_zero, List.set_cons_succ]
          clear hbc
          refine anyL_take (i := 8) (v := ?v8_23) (atS (atS (atS (atS (atS (atS (atS (atS at0)))))))) (by kernel_rfl) (by kernel_rfl) (by kernel_rfl) (by kernel_rfl) (fun _ _ _ h => h) rfl ?y8_23 HS3 ?r8_23
          case y8_23 => intro wx hx; obtain ⟨h1, h2, h3, h4⟩ := hx; go_simp; try (with_reducible rfl)
          simp only [Act.put, List.setIfInBounds_toArray, List.set_cons_zero, List.set_cons_succ]
          refine anyL_take (i := 9) (v := ?v9_24) (atS (atS (atS (atS (atS (atS (atS (atS (atS at0))))))))) (by kernel_rfl) (by kernel_rfl) (by kernel_rfl) (by kernel_rfl) (fun _ _ _ h => h) rfl ?y9_24 HS3 ?r9_24
          case y9_24 => intro wx hx; obtain ⟨h1, h2, h3, h4⟩ := hx; go_simp; try (with_reducible rfl)
          simp only [Act.put, List.setIfInBounds_toArray, List.set_cons_zero, List.set_cons_succ]
          refine anyL_one (i := 15) (atS (atS (atS (atS (atS (atS (atS (atS (atS (atS (atS (atS (atS (atS (atS at0))))))))))))))) (by kernel_rfl) rfl (fun K hK => ?_)
          go_simp
          refine (E0.out _).mono ?_
          rintro e w4 ⟨rfl, hbc⟩
          have HS4 : HeldQ b3 (off3 + j * 4) x0 x1 x2 x3 w4 := HS3.later hbc (Nat.lt_of_lt_of_le hb3l HB3.out.size)
          have HB4 : Hid (Below w.heap.size w w4) := HB3.out.trans (hbc.mono HB3.out.size)
          have HX4 : Hid (Blk w4 w.heap.size #[.int .i64 z, .slice (some ⟨b, off, none⟩) n cap] 24) := HX3.out.below hbc HX3.out.lt
          refine hK _ _ (.inr HS4) ?_
          try simp only [Act.put, List.setIfInBounds_toArray, List.set_cons_zero, List.set_cons_succ]
          clear hbc
          refine anyL_take (i := 16) (v := ?v16_25) (atS (atS (atS (atS (atS (atS (atS (atS (atS (atS (atS (atS (atS (atS (atS (atS at0)))))))))))))))) (by kernel_rfl) (by kernel_rfl) (by kernel_rfl) (by kernel_rfl) (fun _ _ _ h => h) rfl ?y16_25 HS4 ?r16_25
          case y16_25 => intro wx hx; obtain ⟨h1, h2, h3, h4⟩ := hx; go_simp; try (with_reducible rfl)
          simp only [Act.put, List.setIfInBounds_toArray, List.set_cons_zero, List.set_cons_succ]
          refine anyL_take (i := 17) (v := ?v17_26) (atS (atS (atS (atS (atS (atS (atS (atS (atS (atS (atS (atS (atS (atS (atS (atS (atS at0))))))))))))))))) (by kernel_rfl) (by kernel_rfl) (by kernel_rfl) (by kernel_rfl) (fun _ _ _ h => h) rfl ?y17_26 HS4 ?r17_26
          case y17_26 => intro wx hx; obtain ⟨h1, h2, h3, h4⟩ := hx; go_simp; try (with_reducible rfl)
          simp only [Act.put, List.setIfInBounds_toArray, List.set_cons_zero, List.set_cons_succ]
          refine anyL_one (i := 23) (atS (atS (atS (atS (atS (atS (atS (atS (atS (atS (atS (atS (atS (atS (atS (atS (atS (atS (atS (atS (atS (atS (atS at0))))))))))))))))))))))) (by kernel_rfl) rfl (fun K hK => ?_)
          go_simp
          refine (E1.out _).mono ?_
          rintro e w5 ⟨rfl, hbc⟩
          have HS5 : HeldQ b3 (off3 + j * 4) x0 x1 x2 x3 w5 := HS4.later hbc (Nat.lt_of_lt_of_le hb3l HB4.out.size)
          have HB5 : Hid (Below w.heap.size w w5) := HB4.out.trans (hbc.mono HB4.out.size)
          have HX5 : Hid (Blk w5 w.heap.size #[.int .i64 z, .slice (some ⟨b, off, none⟩) n cap] 24) := HX4.out.below hbc HX4.out.lt
          refine hK _ _ (.inr HS5) ?_
          try simp only [Act.put, List.setIfInBounds_toArray, List.set_cons_zero, List.set_cons_succ]
          clear hbc
          refine anyL_take (i := 24) (v := ?v24_27) (atS (atS (atS (atS (atS (atS (atS (atS (atS (atS (atS (atS (atS (atS (atS (atS (atS (atS (atS (atS (atS (atS (atS (atS at0)))))))))))))))))))))))) (by kernel_rfl) (by kernel_rfl) (by kernel_rfl) (by kernel_rfl) (fun _ _ _ h => h) rfl ?y24_27 HS5 ?r24_27
          case y24_27 => intro wx hx; obtain ⟨h1, h2, h3, h4⟩ := hx; go_simp; try (with_reducible rfl)
          simp only [Act.put, List.setIfInBounds_toArray, List.set_cons_zero, List.set_cons_succ]
          refine anyL_take (i := 25) (v := ?v25_28) (atS (atS (atS (atS (atS (atS (atS (atS (atS (atS (atS (atS (atS (atS (atS (atS (atS (atS (atS (atS (atS (atS (atS (atS (atS at0))))))))))))))))))))))))) (by kernel_rfl) (by kernel_rfl) (by kernel_rfl) (by kernel_rfl) (fun _ _ _ h => h) rfl ?y25_28 HS5 ?r25_28
          case y25_28 => intro wx hx; obtain ⟨h1, h2, h3, h4⟩ := hx; go_simp; try (with_reducible rfl)
          simp only [Act.put, List.setIfInBounds_toArray, List.set_cons_zero, List.set_cons_succ]
          refine anyL_one (i := 31) (atS (atS (atS (atS (atS (atS (atS (atS (atS (atS (atS (atS (atS (atS (atS (atS (atS (atS (atS (atS (atS (atS (atS (atS (atS (atS (atS (atS (atS (atS (atS at0))))))))))))))))))))))))))))))) (by kernel_rfl) rfl (fun K hK => ?_)
          go_simp
          refine (E2.out _).mono ?_
          rintro e w6 ⟨rfl, hbc⟩
          have HS6 : HeldQ b3 (off3 + j * 4) x0 x1 x2 x3 w6 := HS5.later hbc (Nat.lt_of_lt_of_le hb3l HB5.out.size)
          have HB6 : Hid (Below w.heap.size w w6) := HB5.out.trans (hbc.mono HB5.out.size)
          have HX6 : Hid (Blk w6 w.heap.size #[.int .i64 z, .slice (some ⟨b, off, none⟩) n cap] 24) := HX5.out.below hbc HX5.out.lt
          refine hK _ _ (.inr HS6) ?_
          try simp only [Act.put, List.setIfInBounds_toArray, List.set_cons_zero, List.set_cons_succ]
          clear hbc
          refine anyL_take (i := 32) (v := ?v32_29) (atS (atS (atS (atS (atS (atS (atS (atS (atS (atS (atS (atS (atS (atS (atS (atS (atS (atS (atS (atS (atS (atS (atS (atS (atS (atS (atS (atS (atS (atS (atS (atS at0)))))))))))))))))))))))))))))))) (by kernel_rfl) (by kernel_rfl) (by kernel_rfl) (by kernel_rfl) (fun _ _ _ h => h) rfl ?y32_29 HS6 ?r32_29
          case y32_29 => intro wx hx; obtain ⟨h1, h2, h3, h4⟩ := hx; go_simp; try (with_reducible rfl)
          simp only [Act.put, List.setIfInBounds_toArray, List.set_cons_zero, List.set_cons_succ]
          refine anyL_take (i := 33) (v := ?v33_30) (atS (atS (atS (atS (atS (atS (atS (atS (atS (atS (atS (atS (atS (atS (atS (atS (atS (atS (atS (atS (atS (atS (atS (atS (atS (atS (atS (atS (atS (atS (atS (atS (atS at0))))))))))))))))))))))))))))))))) (by kernel_rfl) (by kernel_rfl) (by kernel_rfl) (by kernel_rfl) (fun _ _ _ h => h) rfl ?y33_30 HS6 ?r33_30
          case y33_30 => intro wx hx; obtain ⟨h1, h2, h3, h4⟩ := hx; go_simp; try (with_reducible rfl)
          simp only [Act.put, List.setIfInBounds_toArray, List.set_cons_zero, List.set_cons_succ]
          refine anyL_one (i := 34) (atS (atS (atS (atS (atS (atS (atS (atS (atS (atS (atS (atS (atS (atS (atS (atS (atS (atS (atS (atS (atS (atS (atS (atS (atS (atS (atS (atS (atS (atS (atS (atS (atS (atS at0)))))))))))))))))))))))))))))))))) (by kernel_rfl) rfl (fun K hK => ?_)
          go_simp
          refine hK _ _ (.inr HS6) (anyL_done (by kernel_rfl) (NoPanic.normal ?_))
          try simp only [Act.put, List.setIfInBounds_toArray, List.set_cons_zero, List.set_cons_succ]
          clear HS6 HS5 HS4 HS3 HSD HS0
          go_wp2
          go_roundw
          case rel =>
            first
              | exact ⟨j + 1, by omega, by rw [HJ2.out], by omega⟩
              | exact ⟨j + 1, by omega, by rw [HJ2.out], by go_num, HX6, HB6⟩
          case measure => simp [intOf]; omega
        · have hnl : ¬ (j : Int) < (L : Int) := by omega
          obtain rfl : j = L := by omega
          go_wp2
          go_roundw
          case rel => exact ⟨k + 1, by omega, by rw [HTE.out], by go_num, hbx, hb⟩
          case measure => simp [intOf]; omega
    · have hnl : ¬ (k : Int) < (n : Int) := by omega
      obtain rfl : k = n := by omega
      go_wp2
      refine bodyPost_ret (v := .tuple #[.string (textS (textTk z l k)), .int .i64 0]) (by simp [results, Tryd.results9, go_sem]) rfl ⟨by rw [HTN.out], hb.out⟩
set_option maxRecDepth 100000 in
set_option maxHeartbeats 3200000 in
theorem shownR_okP (z : Int) (l : List St) (vs : Value) (w : World) (h : Mach w (.agg #[.int .i64 z, vs]) (z, l)) (hok : okM (z, l)) (hr : faultM (z, l) = 0) (hz0 : 0 ≤ z) :
    Calls Tryd.prog 9 #[.agg #[.int .i64 z, vs]] w fun e w' => e = .returned (.tuple #[.string (textS (textM (z, l))), .int .i64 0]) ∧ Below w.heap.size w w' := by
  have HM : Hid (Mach w (.agg #[.int .i64 z, vs]) (z, l)) := h
  have HK : Hid (okM (z, l)) := hok
  have HR : Hid (faultM (z, l) = 0) := hr
  have hz := (faultM_zero hr).2
  simp only [rangeB, Bool.and_eq_true, inB, decide_eq_true_eq] at hz
  have hz1 : -1 ≤ z := hz.1.1
  have h60 := (right_size hr).1
  have hz2 : z ≤ 60 := by omega
  obtain ⟨vs', hvs, hS⟩ := h
  simp only [Value.agg.injEq, Array.mk.injEq, List.cons.injEq, and_true, true_and] at hvs
  subst hvs
  obtain ⟨a, cap, rfl, hc⟩ := hS.get
  have HC : Hid (∀ j, j < l.length → ∃ b off va, a = some ⟨b, off, none⟩ ∧ b < w.heap.size ∧ w.cell? ⟨b, off + j * 2, none⟩ = some (.int .i64 (el l j).1) ∧ w.cell? ⟨b, off + j * 2 + 1, none⟩ = some va ∧ Arcs w va (el l j).2) := hc
  have HST : Hid (∀ j, j < l.length → finB (el l j).1 = true ∧ (el l j).2.all (arcB l.length) = true ∧ (el l j).2.length ≤ 400) := fun j hj => ⟨(right_st hr hj).1, (right_st hr hj).2, by
    have h1 := arcN_take hj
    have h2 : arcN (l.take (j + 1)) ≤ arcN l := by
      conv => rhs; rw [← List.take_append_drop (j + 1) l, arcN_append]
      omega
    have h3 := (right_size hr).2
    omega⟩
  have hts := textM_short hr
  have HTA : Hid (∀ k j, k < l.length → (textTa z l k j).length ≤ 20000) := fun k j hk => Nat.le_trans (textTa_le hk) hts
  have HTK : Hid (∀ k, k < l.length → (textTk z l k).length ≤ 20000) := fun k hk => Nat.le_trans (textTk_le hk) hts
  have HTN : Hid (textTk z l l.length = textM (z, l)) := textTk_all z l
  have HTS : Hid (∀ k, k < l.length → textTk z l (k + 1) = textTa z l k (el l k).2.length) := fun k hk => textTk_succ hk
  have HD1 : Hid (∀ W : World, 0 ≤ z → Calls Tryd.prog 20 #[.int .i64 z] W fun e w' => e = .returned (.string (textS (decT z))) ∧ Below W.heap.size W w') := fun W h0 => dec_t z W h0 (by omega)
  have HZ0 : Hid (z < 0 → textTk z l 0 = [115, 116, 97, 114, 116, 32, 45, 10]) := fun h0 => by
    show headT z ++ _ = _
    rw [headT_eq, startT, if_pos h0]; simp
  have HZ1 : Hid (0 ≤ z → (⟨#[115, 116, 97, 114, 116, 32]⟩ : ByteArray) ++ textS (decT z) ++ ⟨#[10]⟩ = textS (textTk z l 0)) := fun h0 => by
    show textS [115, 116, 97, 114, 116, 32] ++ textS (decT z) ++ textS [10] = textS (headT z ++ _)
    rw [headT_eq, startT, if_neg (by omega), textS_app, textS_app]; simp
  have hdz : (textS (decT z)).size ≤ 10 := dec_short (by omega)
  clear hS hc hr hz hok hts
  generalize hn : l.length = n at *
  have HN : Hid (l.length = n) := hn
  clear hn
  generalize textM (z, l) = TM at *
  generalize textS (decT z) = DZ at *
  go_enter Tryd.func9, Tryd.ntmps9
  go_wp2_with (first
    | (go_at_call 19; (with_reducible refine (fault_any _ (z, l) _ (HM.out.later (B := w.heap.size) (by go_grown) (Nat.le_refl _)) HK.out 0 HR.out).mono ?_); rintro e w1 ⟨rfl, hb⟩; obtain ⟨s1, b1, hb1⟩ := boxed hb (by simp); have HB1 : Hid (Below w.heap.size w w1) := hb1; have K1 : Hid (Blk w1 w.heap.size #[.int .i64 z, .slice a n cap] 24) := b1; have c0 := b1.cell 0 (v := .int .i64 z) rfl; clear b1 hb1 hb)
    | (go_at_call 20; (with_reducible refine (HD1.out _ (by omega)).mono ?_); rintro e w2 ⟨rfl, hb⟩; have HB2 : Hid (Below w.heap.size w w2) := HB1.out.trans (hb.mono HB1.out.size); have K2 : Hid (Blk w2 w.heap.size #[.int .i64 z, .slice a n cap] 24) := K1.out.below hb K1.out.lt; clear hb))
  go_loopw [5, 6] (fun s5 i wr => ∃ (k : Nat), k ≤ n ∧ s5 = .string (textS (textTk z l k)) ∧ i = .int .i64 k ∧ Hid (Blk wr w.heap.size #[.int .i64 z, .slice a n cap] 24) ∧ Hid (Below w.heap.size w wr)) (fun _ i _ => n - (intOf i).toNat)
  case atStart =>
    first
      | exact ⟨0, Nat.zero_le _, by rw [HZ0.out (by omega)]; rfl, rfl, K1, HB1⟩
      | exact ⟨0, Nat.zero_le _, by rw [HZ1.out (by omega)], rfl, K2, HB2⟩
  case round =>
    clear HZ0 HZ1 HD1 hdz
    obtain ⟨k, hk, rfl, rfl, hbx, hb⟩ := hrel
    have c1 := hbx.out.cell 1 (v := .slice a n cap) rfl
    by_cases hkn : k < n
    · obtain ⟨b, off, va, rfl, hbl, g0, g1, gA⟩ := HC.out k hkn
      obtain ⟨a2, cap2, hva, hga⟩ := gA.get
      subst hva
      have G1 : Hid (w.cell? ⟨b, off + k * 2 + 1, none⟩ = some (.slice a2 (el l k).2.length cap2)) := g1
      have g0 := (hb.out.cell (p := ⟨b, off + k * 2, none⟩) hbl).trans g0
      have HGA : Hid (∀ j, j < (el l k).2.length → ∃ b off, a2 = some ⟨b, off, none⟩ ∧ b < w.heap.size ∧ w.cell? ⟨b, off + j * 4, none⟩ = some (.int .i64 (el (el l k).2 j).1) ∧ w.cell? ⟨b, off + j * 4 + 1, none⟩ = some (.int .i64 (el (el l k).2 j).2.1) ∧ w.cell? ⟨b, off + j * 4 + 2, none⟩ = some (.int .i64 (el (el l k).2 j).2.2.1) ∧ w.cell? ⟨b, off + j * 4 + 3, none⟩ = some (.int .i64 (el (el l k).2 j).2.2.2)) := hga
      obtain ⟨hfin, harc, hL4⟩ := HST.out k hkn
      have HAR : Hid ((el l k).2.all (arcB n) = true) := harc
      have HWS : Hid (∀ W : World, Calls Tryd.prog 21 #[.int .i64 (el l k).1] W fun e w' => e = .returned (.tuple #[.string (textS (finT (el l k).1)), .int .i64 0]) ∧ Below W.heap.size W w') := fun W => by
        have h9 := weightShown_any (el l k).1 W
        rw [fin_show hfin] at h9
        exact h9
      have hfs : (textS (finT (el l k).1)).size ≤ 10 := fin_short hfin
      have hks : (textS (textTk z l k)).size ≤ 20000 := HTK.out k hkn
      have HT0 : Hid (textS (textTk z l k) ++ ⟨#[115, 116, 97, 116, 101, 32]⟩ ++ textS (finT (el l k).1) ++ ⟨#[10]⟩ = textS (textTa z l k 0)) := by
        show textS (textTk z l k) ++ textS [115, 116, 97, 116, 101, 32] ++ textS (finT (el l k).1) ++ textS [10] = _
        rw [textTa_zero, stT_eq, textS_app, textS_app, textS_app]; simp
      have HTJ : Hid (∀ j, j < (el l k).2.length → textTa z l k (j + 1) = textTa z l k j ++ arcT (el (el l k).2 j)) := fun j hj => textTa_succ hj
      have HTE : Hid (textTk z l (k + 1) = textTa z l k (el l k).2.length) := HTS.out k hkn
      have HTB : Hid (∀ j, (textTa z l k j).length ≤ 20000) := fun j => HTA.out k j hkn
      clear g1 gA hga harc hfin
      generalize textS (finT (el l k).1) = FT at *
      generalize (el l k).1 = fin at *
      generalize (el l k).2 = ar at *
      generalize textTa z l k = TA at *
      generalize hL : ar.length = L at *
      have HL : Hid (ar.length = L) := hL
      clear hL
      generalize textS (textTk z l k) = AC at *
      have hk0 : (0 : Int) ≤ (k : Int) := by omega
      have hk1 : (k : Int) < (n : Int) := by omega
      have n1 : ¬ 9223372036854775807 < AC.size + 6 := by omega
      have n2 : ¬ 9223372036854775807 < AC.size + 6 + FT.size := by omega
      have n3 : ¬ 9223372036854775807 < AC.size + 6 + FT.size + 1 := by omega
      go_wp2_with (first
        | (go_at_call 21; (with_reducible refine (HWS.out _).mono ?_); rintro e w3 ⟨rfl, hb3⟩; have HB3 : Hid (Below w.heap.size w w3) := hb.out.trans (hb3.mono hb.out.size); have K3 : Hid (Blk w3 w.heap.size #[.int .i64 z, .slice (some ⟨b, off, none⟩) n cap] 24) := hbx.out.below hb3 hbx.out.lt; have c3 := K3.out.cell 1 (v := .slice (some ⟨b, off, none⟩) n cap) rfl; have g3 := (HB3.out.cell (p := ⟨b, off + k * 2 + 1, none⟩) hbl).trans G1.out; clear hb3))
      go_loopw [5, 10] (fun s5 i wr => ∃ (j : Nat), j ≤ L ∧ s5 = .string (textS (TA j)) ∧ i = .int .i64 j ∧ Hid (Blk wr w.heap.size #[.int .i64 z, .slice (some ⟨b, off, none⟩) n cap] 24) ∧ Hid (Below w.heap.size w wr)) (fun _ i _ => L - (intOf i).toNat)
      case atStart => exact ⟨0, Nat.zero_le _, by rw [HT0.out], rfl, K3, HB3⟩
      case round =>
        clear HT0 HWS K3 HB3 c3 g3 c1 g0 hbx hb
        obtain ⟨j, hj, rfl, rfl, hbx, hb⟩ := hrel
        by_cases hjL : j < L
        · obtain ⟨b3, off3, rfl, hb3l, e0, e1, e2, e3⟩ := HGA.out j hjL
          have hcar := List.all_eq_true.1 HAR.out (el ar j) (el_mem (by rw [HL.out]; exact hjL))
          have hcb := hcar
          simp only [arcB, inB, Bool.and_eq_true, decide_eq_true_eq] at hcb
          have HJ := HTJ.out j hjL
          rw [arcT_eq] at HJ
          have hjs : (textS (TA j)).size ≤ 20000 := HTB.out j
          generalize el ar j = c at *
          generalize hx0 : c.1 = x0 at *
          generalize hx1 : c.2.1 = x1 at *
          generalize hx2 : c.2.2.1 = x2 at *
          generalize hx3 : c.2.2.2 = x3 at *
          have hr0 : 0 ≤ x0 ∧ x0 ≤ 1000000000 := by omega
          have hr1 : 0 ≤ x1 ∧ x1 ≤ 1000000000 := by omega
          have hr2 : 0 ≤ x2 ∧ x2 ≤ 1000000000 := by omega
          have hr3 : 0 ≤ x3 ∧ x3 ≤ 1000000000 := by omega
          clear hx0 hx1 hx2 hx3 hcar hcb
          have E0 : Hid (∀ W : World, Calls Tryd.prog 20 #[.int .i64 x0] W fun e w' => e = .returned (.string (textS (decT x0))) ∧ Below W.heap.size W w') := fun W => dec_t x0 W hr0.1 (by omega)
          have E1 : Hid (∀ W : World, Calls Tryd.prog 20 #[.int .i64 x1] W fun e w' => e = .returned (.string (textS (decT x1))) ∧ Below W.heap.size W w') := fun W => dec_t x1 W hr1.1 (by omega)
          have E2 : Hid (∀ W : World, Calls Tryd.prog 20 #[.int .i64 x2] W fun e w' => e = .returned (.string (textS (decT x2))) ∧ Below W.heap.size W w') := fun W => dec_t x2 W hr2.1 (by omega)
          have E3 : Hid (∀ W : World, Calls Tryd.prog 20 #[.int .i64 x3] W fun e w' => e = .returned (.string (textS (decT x3))) ∧ Below W.heap.size W w') := fun W => dec_t x3 W hr3.1 (by omega)
          have l0 : (textS (decT x0)).size ≤ 10 := dec_short (by omega)
          have l1 : (textS (decT x1)).size ≤ 10 := dec_short (by omega)
          have l2 : (textS (decT x2)).size ≤ 10 := dec_short (by omega)
          have l3 : (textS (decT x3)).size ≤ 10 := dec_short (by omega)
          have HJ2 : Hid (textS (TA j) ++ ⟨#[97, 114, 99, 32]⟩ ++ textS (decT x3) ++ ⟨#[32]⟩ ++ textS (decT x0) ++ ⟨#[32]⟩ ++ textS (decT x1) ++ ⟨#[32]⟩ ++ textS (decT x2) ++ ⟨#[10]⟩ = textS (TA (j + 1))) := by
            show textS (TA j) ++ textS [97, 114, 99, 32] ++ textS (decT x3) ++ textS [32] ++ textS (decT x0) ++ textS [32] ++ textS (decT x1) ++ textS [32] ++ textS (decT x2) ++ textS [10] = _
            rw [HJ]
            simp only [textS_app, List.append_assoc]
          clear HJ
          generalize textS (decT x0) = D0 at *
          generalize textS (decT x1) = D1 at *
          generalize textS (decT x2) = D2 at *
          generalize textS (decT x3) = D3 at *
          generalize textS (TA j) = AC2 at *
          have hj0 : (0 : Int) ≤ (j : Int) := by omega
          have hj1 : (j : Int) < (L : Int) := by omega
          have HS0 : HeldQ b3 (off3 + j * 4) x0 x1 x2 x3 wr := ⟨(hb.out.cell (p := ⟨b3, off3 + j * 4, none⟩) hb3l).trans e0, (hb.out.cell (p := ⟨b3, off3 + j * 4 + 1, none⟩) hb3l).trans e1, (hb.out.cell (p := ⟨b3, off3 + j * 4 + 2, none⟩) hb3l).trans e2, (hb.out.cell (p := ⟨b3, off3 + j * 4 + 3, none⟩) hb3l).trans e3⟩
          clear e0 e1 e2 e3
          have m1 : ¬ 9223372036854775807 < AC2.size + 4 := by omega
          have m2 : ¬ 9223372036854775807 < AC2.size + 4 + D3.size := by omega
          have m3 : ¬ 9223372036854775807 < AC2.size + 4 + D3.size + 1 := by omega
          have m4 : ¬ 9223372036854775807 < AC2.size + 4 + D3.size + 1 + D0.size := by omega
          have m5 : ¬ 9223372036854775807 < AC2.size + 4 + D3.size + 1 + D0.size + 1 := by omega
          have m6 : ¬ 9223372036854775807 < AC2.size + 4 + D3.size + 1 + D0.size + 1 + D1.size := by omega
          have m7 : ¬ 9223372036854775807 < AC2.size + 4 + D3.size + 1 + D0.size + 1 + D1.size + 1 := by omega
          have m8 : ¬ 9223372036854775807 < AC2.size + 4 + D3.size + 1 + D0.size + 1 + D1.size + 1 + D2.size := by omega
          have m9 : ¬ 9223372036854775807 < AC2.size + 4 + D3.size + 1 + D0.size + 1 + D1.size + 1 + D2.size + 1 := by omega
          go_wp2
          have HBD : Hid (Below w.heap.size w wr.drew) := hb.out.drew
          have HXD : Hid (Blk wr.drew w.heap.size #[.int .i64 z, .slice (some ⟨b, off, none⟩) n cap] 24) := hbx.out.drew
          have HSD : HeldQ b3 (off3 + j * 4) x0 x1 x2 x3 wr.drew := HS0
          refine region_anyL (HeldQ b3 (off3 + j * 4) x0 x1 x2 x3) 1000 (by kernel_rfl) ?_
          generalize wr.drew = W0 at *
          refine anyL_take (i := 0) (v := ?v0_31) at0 (by kernel_rfl) (by kernel_rfl) (by kernel_rfl) (by kernel_rfl) (fun _ _ _ h => h) rfl ?y0_31 HSD ?r0_31
          case y0_31 => intro wx hx; obtain ⟨h1, h2, h3, h4⟩ := hx; go_simp; try (with_reducible rfl)
          simp only [Act.put, List.setIfInBounds_toArray, List.set_cons_zero, List.set_cons_succ]
          refine anyL_take (i := 1) (v := ?v1_32) (atS at0) (by kernel_rfl) (by kernel_rfl) (by kernel_rfl) (by kernel_rfl) (fun _ _ _ h => h) rfl ?y1_32 HSD ?r1_32
          case y1_32 => intro wx hx; obtain ⟨h1, h2, h3, h4⟩ := hx; go_simp; try (with_reducible rfl)
          simp only [Act.put, List.setIfInBounds_toArray, List.set_cons_zero, List.set_cons_succ]
          refine anyL_take (i := 2) (v := ?v2_33) (atS (atS at0)) (by kernel_rfl) (by kernel_rfl) (by kernel_rfl) (by kernel_rfl) (fun _ _ _ h => h) rfl ?y2_33 HSD ?r2_33
          case y2_33 => intro wx hx; obtain ⟨h1, h2, h3, h4⟩ := hx; go_simp; try (with_reducible rfl)
          simp only [Act.put, List.setIfInBounds_toArray, List.set_cons_zero, List.set_cons_succ]
          refine anyL_take (i := 3) (v := ?v3_34) (atS (atS (atS at0))) (by kernel_rfl) (by kernel_rfl) (by kernel_rfl) (by kernel_rfl) (fun _ _ _ h => h) rfl ?y3_34 HSD ?r3_34
          case y3_34 => intro wx hx; obtain ⟨h1, h2, h3, h4⟩ := hx; go_simp; try (with_reducible rfl)
          simp only [Act.put, List.setIfInBounds_toArray, List.set_cons_zero, List.set_cons_succ]
          refine anyL_take (i := 4) (v := ?v4_35) (atS (atS (atS (atS at0)))) (by kernel_rfl) (by kernel_rfl) (by kernel_rfl) (by kernel_rfl) (fun _ _ _ h => h) rfl ?y4_35 HSD ?r4_35
          case y4_35 => intro wx hx; obtain ⟨h1, h2, h3, h4⟩ := hx; go_simp; try (with_reducible rfl)
          simp only [Act.put, List.setIfInBounds_toArray, List.set_cons_zero, List.set_cons_succ]
          refine anyL_take (i := 5) (v := ?v5_36) (atS (atS (atS (atS (atS at0))))) (by kernel_rfl) (by kernel_rfl) (by kernel_rfl) (by kernel_rfl) (fun _ _ _ h => h) rfl ?y5_36 HSD ?r5_36
          case y5_36 => intro wx hx; obtain ⟨h1, h2, h3, h4⟩ := hx; go_simp; try (with_reducible rfl)
          simp only [Act.put, List.setIfInBounds_toArray, List.set_cons_zero, List.set_cons_succ]
          refine anyL_take (i := 6) (v := ?v6_37) (atS (atS (atS (atS (atS (atS at0)))))) (by kernel_rfl) (by kernel_rfl) (by kernel_rfl) (by kernel_rfl) (fun _ _ _ h => h) rfl ?y6_37 HSD ?r6_37
          case y6_37 => intro wx hx; obtain ⟨h1, h2, h3, h4⟩ := hx; go_simp; try (with_reducible rfl)
          simp only [Act.put, List.setIfInBounds_toArray, List.set_cons_zero, List.set_cons_succ]
          refine anyL_take (i := 10) (v := ?v10_38) (atS (atS (atS (atS (atS (atS (atS (atS (atS (atS at0)))))))))) (by kernel_rfl) (by kernel_rfl) (by kernel_rfl) (by kernel_rfl) (fun _ _ _ h => h) rfl ?y10_38 HSD ?r10_38
          case y10_38 => intro wx hx; obtain ⟨h1, h2, h3, h4⟩ := hx; go_simp; try (with_reducible rfl)
          simp only [Act.put, List.setIfInBounds_toArray, List.set_cons_zero, List.set_cons_succ]
          refine anyL_take (i := 11) (v := ?v11_39) (atS (atS (atS (atS (atS (atS (atS (atS (atS (atS (atS at0))))))))))) (by kernel_rfl) (by kernel_rfl) (by kernel_rfl) (by kernel_rfl) (fun _ _ _ h => h) rfl ?y11_39 HSD ?r11_39
          case y11_39 => intro wx hx; obtain ⟨h1, h2, h3, h4⟩ := hx; go_simp; try (with_reducible rfl)
          simp only [Act.put, List.setIfInBounds_toArray, List.set_cons_zero, List.set_cons_succ]
          refine anyL_take (i := 12) (v := ?v12_40) (atS (atS (atS (atS (atS (atS (atS (atS (atS (atS (atS (atS at0)))))))))))) (by kernel_rfl) (by kernel_rfl) (by kernel_rfl) (by kernel_rfl) (fun _ _ _ h => h) rfl ?y12_40 HSD ?r12_40
          case y12_40 => intro wx hx; obtain ⟨h1, h2, h3, h4⟩ := hx; go_simp; try (with_reducible rfl)
          simp only [Act.put, List.setIfInBounds_toArray, List.set_cons_zero, List.set_cons_succ]
          refine anyL_take (i := 13) (v := ?v13_41) (atS (atS (atS (atS (atS (atS (atS (atS (atS (atS (atS (atS (atS at0))))))))))))) (by kernel_rfl) (by kernel_rfl) (by kernel_rfl) (by kernel_rfl) (fun _ _ _ h => h) rfl ?y13_41 HSD ?r13_41
          case y13_41 => intro wx hx; obtain ⟨h1, h2, h3, h4⟩ := hx; go_simp; try (with_reducible rfl)
          simp only [Act.put, List.setIfInBounds_toArray, List.set_cons_zero, List.set_cons_succ]
          refine anyL_take (i := 14) (v := ?v14_42) (atS (atS (atS (atS (atS (atS (atS (atS (atS (atS (atS (atS (atS (atS at0)))))))))))))) (by kernel_rfl) (by kernel_rfl) (by kernel_rfl) (by kernel_rfl) (fun _ _ _ h => h) rfl ?y14_42 HSD ?r14_42
          case y14_42 => intro wx hx; obtain ⟨h1, h2, h3, h4⟩ := hx; go_simp; try (with_reducible rfl)
          simp only [Act.put, List.setIfInBounds_toArray, List.set_cons_zero, List.set_cons_succ]
          refine anyL_take (i := 18) (v := ?v18_43) (atS (atS (atS (atS (atS (atS (atS (atS (atS (atS (atS (atS (atS (atS (atS (atS (atS (atS at0)))))))))))))))))) (by kernel_rfl) (by kernel_rfl) (by kernel_rfl) (by kernel_rfl) (fun _ _ _ h => h) rfl ?y18_43 HSD ?r18_43
          case y18_43 => intro wx hx; obtain ⟨h1, h2, h3, h4⟩ := hx; go_simp; try (with_reducible rfl)
          simp only [Act.put, List.setIfInBounds_toArray, List.set_cons_zero, List.set_cons_succ]
          refine anyL_take (i := 19) (v := ?v19_44) (atS (atS (atS (atS (atS (atS (atS (atS (atS (atS (atS (atS (atS (atS (atS (atS (atS (atS (atS at0))))))))))))))))))) (by kernel_rfl) (by kernel_rfl) (by kernel_rfl) (by kernel_rfl) (fun _ _ _ h => h) rfl ?y19_44 HSD ?r19_44
          case y19_44 => intro wx hx; obtain ⟨h1, h2, h3, h4⟩ := hx; go_simp; try (with_reducible rfl)
          simp only [Act.put, List.setIfInBounds_toArray, List.set_cons_zero, List.set_cons_succ]
          refine anyL_take (i := 20) (v := ?v20_45) (atS (atS (atS (atS (atS (atS (atS (atS (atS (atS (atS (atS (atS (atS (atS (atS (atS (atS (atS (atS at0)))))))))))))))))))) (by kernel_rfl) (by kernel_rfl) (by kernel_rfl) (by kernel_rfl) (fun _ _ _ h => h) rfl ?y20_45 HSD ?r20_45
          case y20_45 => intro wx hx; obtain ⟨h1, h2, h3, h4⟩ := hx; go_simp; try (with_reducible rfl)
          simp only [Act.put, List.setIfInBounds_toArray, List.set_cons_zero, List.set_cons_succ]
          refine anyL_take (i := 21) (v := ?v21_46) (atS (atS (atS (atS (atS (atS (atS (atS (atS (atS (atS (atS (atS (atS (atS (atS (atS (atS (atS (atS (atS at0))))))))))))))))))))) (by kernel_rfl) (by kernel_rfl) (by kernel_rfl) (by kernel_rfl) (fun _ _ _ h => h) rfl ?y21_46 HSD ?r21_46
          case y21_46 => intro wx hx; obtain ⟨h1, h2, h3, h4⟩ := hx; go_simp; try (with_reducible rfl)
          simp only [Act.put, List.setIfInBounds_toArray, List.set_cons_zero, List.set_cons_succ]
          refine anyL_take (i := 22) (v := ?v22_47) (atS (atS (atS (atS (atS (atS (atS (atS (atS (atS (atS (atS (atS (atS (atS (atS (atS (atS (atS (atS (atS (atS at0)))))))))))))))))))))) (by kernel_rfl) (by kernel_rfl) (by kernel_rfl) (by kernel_rfl) (fun _ _ _ h => h) rfl ?y22_47 HSD ?r22_47
          case y22_47 => intro wx hx; obtain ⟨h1, h2, h3, h4⟩ := hx; go_simp; try (with_reducible rfl)
          simp only [Act.put, List.setIfInBounds_toArray, List.set_cons_zero, List.set_cons_succ]
          refine anyL_take (i := 26) (v := ?v26_48) (atS (atS (atS (atS (atS (atS (atS (atS (atS (atS (atS (atS (atS (atS (atS (atS (atS (atS (atS (atS (atS (atS (atS (atS (atS (atS at0)))))))))))))))))))))))))) (by kernel_rfl) (by kernel_rfl) (by kernel_rfl) (by kernel_rfl) (fun _ _ _ h => h) rfl ?y26_48 HSD ?r26_48
          case y26_48 => intro wx hx; obtain ⟨h1, h2, h3, h4⟩ := hx; go_simp; try (with_reducible rfl)
          simp only [Act.put, List.setIfInBounds_toArray, List.set_cons_zero, List.set_cons_succ]
          refine anyL_take (i := 27) (v := ?v27_49) (atS (atS (atS (atS (atS (atS (atS (atS (atS (atS (atS (atS (atS (atS (atS (atS (atS (atS (atS (atS (atS (atS (atS (atS (atS (atS (atS at0))))))))))))))))))))))))))) (by kernel_rfl) (by kernel_rfl) (by kernel_rfl) (by kernel_rfl) (fun _ _ _ h => h) rfl ?y27_49 HSD ?r27_49
          case y27_49 => intro wx hx; obtain ⟨h1, h2, h3, h4⟩ := hx; go_simp; try (with_reducible rfl)
          simp only [Act.put, List.setIfInBounds_toArray, List.set_cons_zero, List.set_cons_succ]
          refine anyL_take (i := 28) (v := ?v28_50) (atS (atS (atS (atS (atS (atS (atS (atS (atS (atS (atS (atS (atS (atS (atS (atS (atS (atS (atS (atS (atS (atS (atS (atS (atS (atS (atS (atS at0)))))))))))))))))))))))))))) (by kernel_rfl) (by kernel_rfl) (by kernel_rfl) (by kernel_rfl) (fun _ _ _ h => h) rfl ?y28_50 HSD ?r28_50
          case y28_50 => intro wx hx; obtain ⟨h1, h2, h3, h4⟩ := hx; go_simp; try (with_reducible rfl)
          simp only [Act.put, List.setIfInBounds_toArray, List.set_cons_zero, List.set_cons_succ]
          refine anyL_take (i := 29) (v := ?v29_51) (atS (atS (atS (atS (atS (atS (atS (atS (atS (atS (atS (atS (atS (atS (atS (atS (atS (atS (atS (atS (atS (atS (atS (atS (atS (atS (atS (atS (atS at0))))))))))))))))))))))))))))) (by kernel_rfl) (by kernel_rfl) (by kernel_rfl) (by kernel_rfl) (fun _ _ _ h => h) rfl ?y29_51 HSD ?r29_51
          case y29_51 => intro wx hx; obtain ⟨h1, h2, h3, h4⟩ := hx; go_simp; try (with_reducible rfl)
          simp only [Act.put, List.setIfInBounds_toArray, List.set_cons_zero, List.set_cons_succ]
          refine anyL_take (i := 30) (v := ?v30_52) (atS (atS (atS (atS (atS (atS (atS (atS (atS (atS (atS (atS (atS (atS (atS (atS (atS (atS (atS (atS (atS (atS (atS (atS (atS (atS (atS (atS (atS (atS at0)))))))))))))))))))))))))))))) (by kernel_rfl) (by kernel_rfl) (by kernel_rfl) (by kernel_rfl) (fun _ _ _ h => h) rfl ?y30_52 HSD ?r30_52
          case y30_52 => intro wx hx; obtain ⟨h1, h2, h3, h4⟩ := hx; go_simp; try (with_reducible rfl)
          simp only [Act.put, List.setIfInBounds_toArray, List.set_cons_zero, List.set_cons_succ]
          refine anyL_one (i := 7) (atS (atS (atS (atS (atS (atS (atS at0))))))) (by kernel_rfl) rfl (fun K hK => ?_)
          go_simp
          refine (E3.out _).mono ?_
          rintro e w3 ⟨rfl, hbc⟩
          have HS3 : HeldQ b3 (off3 + j * 4) x0 x1 x2 x3 w3 := HSD.later hbc (Nat.lt_of_lt_of_le hb3l HBD.out.size)
          have HB3 : Hid (Below w.heap.size w w3) := HBD.out.trans (hbc.mono HBD.out.size)
          have HX3 : Hid (Blk w3 w.heap.size #[.int .i64 z, .slice (some ⟨b, off, none⟩) n cap] 24) := HXD.out.below hbc HXD.out.lt
          refine hK _ _ (.inr HS3) ?_
          try simp only [Act.put, List.setIfInBounds_toArray, List.set_cons_zero, List.set_cons_succ]
          clear hbc
          refine anyL_take (i := 8) (v := ?v8_53) (atS (atS (atS (atS (atS (atS (atS (atS at0)))))))) (by kernel_rfl) (by kernel_rfl) (by kernel_rfl) (by kernel_rfl) (fun _ _ _ h => h) rfl ?y8_53 HS3 ?r8_53
          case y8_53 => intro wx hx; obtain ⟨h1, h2, h3, h4⟩ := hx; go_simp; try (with_reducible rfl)
          simp only [Act.put, List.setIfInBounds_toArray, List.set_cons_zero, List.set_cons_succ]
          refine anyL_take (i := 9) (v := ?v9_54) (atS (atS (atS (atS (atS (atS (atS (atS (atS at0))))))))) (by kernel_rfl) (by kernel_rfl) (by kernel_rfl) (by kernel_rfl) (fun _ _ _ h => h) rfl ?y9_54 HS3 ?r9_54
          case y9_54 => intro wx hx; obtain ⟨h1, h2, h3, h4⟩ := hx; go_simp; try (with_reducible rfl)
          simp only [Act.put, List.setIfInBounds_toArray, List.set_cons_zero, List.set_cons_succ]
          refine anyL_one (i := 15) (atS (atS (atS (atS (atS (atS (atS (atS (atS (atS (atS (atS (atS (atS (atS at0))))))))))))))) (by kernel_rfl) rfl (fun K hK => ?_)
          go_simp
          refine (E0.out _).mono ?_
          rintro e w4 ⟨rfl, hbc⟩
          have HS4 : HeldQ b3 (off3 + j * 4) x0 x1 x2 x3 w4 := HS3.later hbc (Nat.lt_of_lt_of_le hb3l HB3.out.size)
          have HB4 : Hid (Below w.heap.size w w4) := HB3.out.trans (hbc.mono HB3.out.size)
          have HX4 : Hid (Blk w4 w.heap.size #[.int .i64 z, .slice (some ⟨b, off, none⟩) n cap] 24) := HX3.out.below hbc HX3.out.lt
          refine hK _ _ (.inr HS4) ?_
          try simp only [Act.put, List.setIfInBounds_toArray, List.set_cons_zero, List.set_cons_succ]
          clear hbc
          refine anyL_take (i := 16) (v := ?v16_55) (atS (atS (atS (atS (atS (atS (atS (atS (atS (atS (atS (atS (atS (atS (atS (atS at0)))))))))))))))) (by kernel_rfl) (by kernel_rfl) (by kernel_rfl) (by kernel_rfl) (fun _ _ _ h => h) rfl ?y16_55 HS4 ?r16_55
          case y16_55 => intro wx hx; obtain ⟨h1, h2, h3, h4⟩ := hx; go_simp; try (with_reducible rfl)
          simp only [Act.put, List.setIfInBounds_toArray, List.set_cons_zero, List.set_cons_succ]
          refine anyL_take (i := 17) (v := ?v17_56) (atS (atS (atS (atS (atS (atS (atS (atS (atS (atS (atS (atS (atS (atS (atS (atS (atS at0))))))))))))))))) (by kernel_rfl) (by kernel_rfl) (by kernel_rfl) (by kernel_rfl) (fun _ _ _ h => h) rfl ?y17_56 HS4 ?r17_56
          case y17_56 => intro wx hx; obtain ⟨h1, h2, h3, h4⟩ := hx; go_simp; try (with_reducible rfl)
          simp only [Act.put, List.setIfInBounds_toArray, List.set_cons_zero, List.set_cons_succ]
          refine anyL_one (i := 23) (atS (atS (atS (atS (atS (atS (atS (atS (atS (atS (atS (atS (atS (atS (atS (atS (atS (atS (atS (atS (atS (atS (atS at0))))))))))))))))))))))) (by kernel_rfl) rfl (fun K hK => ?_)
          go_simp
          refine (E1.out _).mono ?_
          rintro e w5 ⟨rfl, hbc⟩
          have HS5 : HeldQ b3 (off3 + j * 4) x0 x1 x2 x3 w5 := HS4.later hbc (Nat.lt_of_lt_of_le hb3l HB4.out.size)
          have HB5 : Hid (Below w.heap.size w w5) := HB4.out.trans (hbc.mono HB4.out.size)
          have HX5 : Hid (Blk w5 w.heap.size #[.int .i64 z, .slice (some ⟨b, off, none⟩) n cap] 24) := HX4.out.below hbc HX4.out.lt
          refine hK _ _ (.inr HS5) ?_
          try simp only [Act.put, List.setIfInBounds_toArray, List.set_cons_zero, List.set_cons_succ]
          clear hbc
          refine anyL_take (i := 24) (v := ?v24_57) (atS (atS (atS (atS (atS (atS (atS (atS (atS (atS (atS (atS (atS (atS (atS (atS (atS (atS (atS (atS (atS (atS (atS (atS at0)))))))))))))))))))))))) (by kernel_rfl) (by kernel_rfl) (by kernel_rfl) (by kernel_rfl) (fun _ _ _ h => h) rfl ?y24_57 HS5 ?r24_57
          case y24_57 => intro wx hx; obtain ⟨h1, h2, h3, h4⟩ := hx; go_simp; try (with_reducible rfl)
          simp only [Act.put, List.setIfInBounds_toArray, List.set_cons_zero, List.set_cons_succ]
          refine anyL_take (i := 25) (v := ?v25_58) (atS (atS (atS (atS (atS (atS (atS (atS (atS (atS (atS (atS (atS (atS (atS (atS (atS (atS (atS (atS (atS (atS (atS (atS (atS at0))))))))))))))))))))))))) (by kernel_rfl) (by kernel_rfl) (by kernel_rfl) (by kernel_rfl) (fun _ _ _ h => h) rfl ?y25_58 HS5 ?r25_58
          case y25_58 => intro wx hx; obtain ⟨h1, h2, h3, h4⟩ := hx; go_simp; try (with_reducible rfl)
          simp only [Act.put, List.setIfInBounds_toArray, List.set_cons_zero, List.set_cons_succ]
          refine anyL_one (i := 31) (atS (atS (atS (atS (atS (atS (atS (atS (atS (atS (atS (atS (atS (atS (atS (atS (atS (atS (atS (atS (atS (atS (atS (atS (atS (atS (atS (atS (atS (atS (atS at0))))))))))))))))))))))))))))))) (by kernel_rfl) rfl (fun K hK => ?_)
          go_simp
          refine (E2.out _).mono ?_
          rintro e w6 ⟨rfl, hbc⟩
          have HS6 : HeldQ b3 (off3 + j * 4) x0 x1 x2 x3 w6 := HS5.later hbc (Nat.lt_of_lt_of_le hb3l HB5.out.size)
          have HB6 : Hid (Below w.heap.size w w6) := HB5.out.trans (hbc.mono HB5.out.size)
          have HX6 : Hid (Blk w6 w.heap.size #[.int .i64 z, .slice (some ⟨b, off, none⟩) n cap] 24) := HX5.out.below hbc HX5.out.lt
          refine hK _ _ (.inr HS6) ?_
          try simp only [Act.put, List.setIfInBounds_toArray, List.set_cons_zero, List.set_cons_succ]
          clear hbc
          refine anyL_take (i := 32) (v := ?v32_59) (atS (atS (atS (atS (atS (atS (atS (atS (atS (atS (atS (atS (atS (atS (atS (atS (atS (atS (atS (atS (atS (atS (atS (atS (atS (atS (atS (atS (atS (atS (atS (atS at0)))))))))))))))))))))))))))))))) (by kernel_rfl) (by kernel_rfl) (by kernel_rfl) (by kernel_rfl) (fun _ _ _ h => h) rfl ?y32_59 HS6 ?r32_59
          case y32_59 => intro wx hx; obtain ⟨h1, h2, h3, h4⟩ := hx; go_simp; try (with_reducible rfl)
          simp only [Act.put, List.setIfInBounds_toArray, List.set_cons_zero, List.set_cons_succ]
          refine anyL_take (i := 33) (v := ?v33_60) (atS (atS (atS (atS (atS (atS (atS (atS (atS (atS (atS (atS (atS (atS (atS (atS (atS (atS (atS (atS (atS (atS (atS (atS (atS (atS (atS (atS (atS (atS (atS (atS (atS at0))))))))))))))))))))))))))))))))) (by kernel_rfl) (by kernel_rfl) (by kernel_rfl) (by kernel_rfl) (fun _ _ _ h => h) rfl ?y33_60 HS6 ?r33_60
          case y33_60 => intro wx hx; obtain ⟨h1, h2, h3, h4⟩ := hx; go_simp; try (with_reducible rfl)
          simp only [Act.put, List.setIfInBounds_toArray, List.set_cons_zero, List.set_cons_succ]
          refine anyL_one (i := 34) (atS (atS (atS (atS (atS (atS (atS (atS (atS (atS (atS (atS (atS (atS (atS (atS (atS (atS (atS (atS (atS (atS (atS (atS (atS (atS (atS (atS (atS (atS (atS (atS (atS (atS at0)))))))))))))))))))))))))))))))))) (by kernel_rfl) rfl (fun K hK => ?_)
          go_simp
          refine hK _ _ (.inr HS6) (anyL_done (by kernel_rfl) (NoPanic.normal ?_))
          try simp only [Act.put, List.setIfInBounds_toArray, List.set_cons_zero, List.set_cons_succ]
          clear HS6 HS5 HS4 HS3 HSD HS0
          go_wp2
          go_roundw
          case rel =>
            first
              | exact ⟨j + 1, by omega, by rw [HJ2.out], by omega⟩
              | exact ⟨j + 1, by omega, by rw [HJ2.out], by go_num, HX6, HB6⟩
          case measure => simp [intOf]; omega
        · have hnl : ¬ (j : Int) < (L : Int) := by omega
          obtain rfl : j = L := by omega
          go_wp2
          go_roundw
          case rel => exact ⟨k + 1, by omega, by rw [HTE.out], by go_num, hbx, hb⟩
          case measure => simp [intOf]; omega
    · have hnl : ¬ (k : Int) < (n : Int) := by omega
      obtain rfl : k = n := by omega
      go_wp2
      refine bodyPost_ret (v := .tuple #[.string (textS (textTk z l k)), .int .i64 0]) (by simp [results, Tryd.results9, go_sem]) rfl ⟨by rw [HTN.out], hb.out⟩
theorem shownR_ok (z : Int) (l : List St) (vs : Value) (w : World) (h : Mach w (.agg #[.int .i64 z, vs]) (z, l)) (hok : okM (z, l)) (hr : faultM (z, l) = 0) :
    Calls Tryd.prog 9 #[.agg #[.int .i64 z, vs]] w fun e w' => e = .returned (.tuple #[.string (textS (textM (z, l))), .int .i64 0]) ∧ Below w.heap.size w w' := by
  by_cases hz0 : z < 0
  · exact shownR_okN z l vs w h hok hr hz0
  · exact shownR_okP z l vs w h hok hr (by omega)
end Go.Proofs.YthaefajpdncoeaaDoor.Wt
