/- What the reference's IsWeight answers, at every number. What the reference's Dec answers: the decimal digits of a number that is not below nought. What the reference's WeightShown answers, at every number. The reference: a machine as a text. The reference: a machine as a text, whatever machine. -/
import Derived.Test.YthaefajpdncoeaaDoorRows
import Derived.Test.YthaefajpdncoeaaDoorPlain
import Derived.WalkKit
import Derived.ProofKit
import Derived.OpenShut
import Derived.WalkLawsBesides
import Derived.WalkSpells
import Derived.Lib.ItoaNum
import Derived.Lib.ItoaLen
import Derived.Laws.BytesString
import Derived.Laws.Cells
import Derived.Deep.RegionWith
import Derived.Test.YthaefajpdncoeaaDoorJ8b
import Derived.Test.YthaefajpdncoeaaDoorJ8a
import Derived.Test.YthaefajpdncoeaaDoorMcR
import Derived.Test.YthaefajpdncoeaaDoorRg
import Derived.Test.YthaefajpdncoeaaDoorBlk
namespace Go.Proofs.YthaefajpdncoeaaDoor.Wt
open Go.ChangeShapes Go.WideShapes Go.ChangeAt Go.RowKit
open Go.Proofs.YthaefajpdncoeaaDoor.Pl
set_option linter.unusedVariables false

theorem isWeight_any (n : Int) (w : World) :
    Calls Tryd.prog 37 #[.int .i64 n] w fun e w' => e = .returned (.bool (wtB n)) ∧ w' = w := by
  by_cases hx : n = 1000000001
  · subst hx
    go_enter Tryd.func37, Tryd.ntmps37
    go_wp2
    go_ret
    exact ⟨rfl, rfl⟩
  · have hne : (n == 1000000001) = false := by simpa using hx
    by_cases h0 : 0 ≤ n
    · by_cases h1 : n ≤ 1000000000
      · go_enter Tryd.func37, Tryd.ntmps37
        go_wp2
        go_ret
        exact ⟨ret_bool (wtB_true.2 (by omega)).symm, rfl⟩
      · go_enter Tryd.func37, Tryd.ntmps37
        go_wp2
        go_ret
        exact ⟨ret_bool (wtB_false.2 (by omega)).symm, rfl⟩
    · go_enter Tryd.func37, Tryd.ntmps37
      go_wp2
      go_ret
      exact ⟨ret_bool (wtB_false.2 (by omega)).symm, rfl⟩
theorem isWeight_of (n : Int) (r : Bool) (w : World) (h : wtB n = r) :
    Calls Tryd.prog 37 #[.int .i64 n] w fun e w' => e = .returned (.bool r) ∧ w = w' := by
  refine (isWeight_any n w).mono ?_
  rintro e w' ⟨rfl, rfl⟩
  exact ⟨ret_bool h, rfl⟩

end Go.Proofs.YthaefajpdncoeaaDoor.Wt
namespace Go.Proofs.YthaefajpdncoeaaDoor.Wt
open Go.ChangeShapes Go.WideShapes Go.ChangeAt Go.RowKit
open Go.Proofs.YthaefajpdncoeaaDoor.Pl
set_option linter.unusedVariables false

theorem ret_str {a b : ByteArray} (h : a = b) : Ending.returned (.string a) = .returned (.string b) := by rw [h]
theorem wrap_id {n : Int} (h0 : -9223372036854775808 ≤ n) (h1 : n ≤ 9223372036854775807) : IntKind.i64.wrap n = n := by
  have h64 : IntKind.i64.wrap n = if n % 18446744073709551616 ≥ 9223372036854775808 then n % 18446744073709551616 - 18446744073709551616 else n % 18446744073709551616 := by
    simp [IntKind.wrap, IntKind.bits, IntKind.signed]
  rw [h64]
  split <;> omega
theorem str_snoc (d : List UInt8) (c : UInt8) : ByteArray.mk d.toArray ++ ByteArray.mk #[c] = ByteArray.mk (d ++ [c]).toArray := by
  apply bytes_inj
  simp
/-- A slice of one byte, as a text. -/
theorem conv1 (W : World) (b : Nat) (c : Int) (cap : Nat) (h : W.cell? ⟨b, 0, none⟩ = some (.int .u8 c)) :
    (convert 39 9 (.slice (some ⟨b, 0, none⟩) 1 cap)).run Tryd.prog W = .ok (.string ⟨#[UInt8.ofNat c.toNat]⟩) W := by
  rw [run_convert_bytes_string W _ _ 5 _ _ _ Tryd.underlying39 Tryd.underlying5 Tryd.underlying9]
  rw [run_bytesToString W ⟨b, 0, none⟩ 1 cap [c] (by
    have := run_loadCells_list (P := Tryd.prog) W ⟨b, 0, none⟩ [Value.int .u8 c] (fun j v hj => by
      match j, hj with
      | 0, hj => simp at hj; subst hj; rw [Addr.add_lit]; exact h)
    simpa using this)]
  rfl

theorem bcell {W w1 : World} (hb : Below W.heap.size W w1) : (∀ b o, b < W.heap.size → w1.cell? ⟨b, o, none⟩ = W.cell? ⟨b, o, none⟩) ∧ (∀ b o, b < W.heap.size → w1.frozen? ⟨b, o, none⟩ = W.frozen? ⟨b, o, none⟩) :=
  ⟨fun b o h => hb.cell (p := ⟨b, o, none⟩) h, fun b o h => hb.frozen (p := ⟨b, o, none⟩) h⟩

theorem dec_small (n : Int) (w : World) (h0 : 0 ≤ n) (h1 : n < 10) :
    Calls Tryd.prog 20 #[.int .i64 n] w fun e w' => e = .returned (.string ⟨(Lib.decDigits n.toNat).toArray⟩) ∧ Below w.heap.size w w' := by
  have HD : Hid (Lib.decDigits n.toNat = [UInt8.ofNat (48 + n.toNat)]) := Lib.decDigits_one (by omega)
  have kc := conv1
  go_enter Tryd.func20, Tryd.ntmps20
  go_wp2
  go_ret
  exact ⟨ret_str (by rw [HD.out, show (48 + n).toNat = 48 + n.toNat from by omega]), (Below.refl _ _).alloc (Nat.le_refl _) _⟩

theorem dec_big (n : Int) (d : List UInt8) (w : World) (h0 : 10 ≤ n) (h1 : n ≤ 9223372036854775807) (hd : d.length ≤ 100)
    (ih : ∀ w : World, Calls Tryd.prog 20 #[.int .i64 (n / 10)] w fun e w' => e = .returned (.string ⟨d.toArray⟩) ∧ Below w.heap.size w w') :
    Calls Tryd.prog 20 #[.int .i64 n] w fun e w' => e = .returned (.string ⟨(d ++ [UInt8.ofNat (48 + n % 10).toNat]).toArray⟩) ∧ Below w.heap.size w w' := by
  have kc := conv1
  have IH : Hid (∀ w : World, Calls Tryd.prog 20 #[.int .i64 (n / 10)] w fun e w' => e = .returned (.string ⟨d.toArray⟩) ∧ Below w.heap.size w w') := ih
  clear ih
  have HQ : Hid (IntKind.i64.wrap (n.tdiv 10) = n / 10) := by
    show _ = _
    rw [Int.tdiv_eq_ediv_of_nonneg (by omega)]
    exact wrap_id (by omega) (by omega)
  have hs : (⟨d.toArray⟩ : ByteArray).size = d.length := rfl
  generalize hS : (⟨d.toArray⟩ : ByteArray) = S at *
  have HS : Hid ((⟨d.toArray⟩ : ByteArray) = S) := hS
  clear hS
  go_enter Tryd.func20, Tryd.ntmps20
  go_wp2_with fail
  go_region_with (go_at_call 20; rw [HQ.out]; refine (IH.out _).mono ?_; rintro e w1 ⟨rfl, hb1⟩; obtain ⟨hc1, hf1⟩ := bcell hb1)
  all_goals go_wp2
  all_goals go_ret
  · exact ⟨ret_str (by rw [← HS.out]; exact str_snoc _ _), ((Below.refl w.heap.size w).drew.trans hb1).alloc hb1.size _⟩
  · exact ⟨ret_str (by rw [← HS.out]; exact str_snoc _ _), (((Below.refl w.heap.size w).alloc (Nat.le_refl _) _).drew).trans (hb1.mono (by simp))⟩
  · exact ⟨ret_str (by rw [← HS.out]; exact str_snoc _ _), (((Below.refl w.heap.size w).alloc (Nat.le_refl _) _).drew).trans (hb1.mono (by simp))⟩

theorem dec_nat (u : Nat) : u ≤ 9223372036854775807 → ∀ w : World,
    Calls Tryd.prog 20 #[.int .i64 (u : Int)] w fun e w' => e = .returned (.string ⟨(Lib.decDigits u).toArray⟩) ∧ Below w.heap.size w w' := by
  induction u using Nat.strongRecOn with
  | _ u ih =>
    intro hu w
    by_cases h : u < 10
    · exact dec_small (u : Int) w (by omega) (by omega)
    · have e : Lib.decDigits u = Lib.decDigits (u / 10) ++ [UInt8.ofNat (48 + u % 10)] := by rw [Lib.decDigits, dif_neg h]
      have hl : (Lib.decDigits (u / 10)).length ≤ 100 := by
        have := Lib.nDigits_le20 (u / 10) (by omega)
        rw [Lib.decDigits_length]; omega
      have ih' := ih (u / 10) (by omega) (by omega)
      have := dec_big (u : Int) (Lib.decDigits (u / 10)) w (by omega) (by omega) hl (fun w => by
        have := ih' w
        rwa [show ((u / 10 : Nat) : Int) = (u : Int) / 10 from by omega] at this)
      rw [show (48 + (u : Int) % 10).toNat = 48 + u % 10 from by omega] at this
      rw [e]
      exact this
theorem dec_any (n : Int) (w : World) (h0 : 0 ≤ n) (h1 : n ≤ 9223372036854775807) (s : ByteArray) (hs : ByteArray.mk (Lib.itoa n).toArray = s) :
    Calls Tryd.prog 20 #[.int .i64 n] w fun e w' => e = .returned (.string s) ∧ Below w.heap.size w w' := by
  subst hs
  obtain ⟨u, rfl⟩ := Int.eq_ofNat_of_zero_le h0
  have : Lib.itoa (u : Int) = Lib.decDigits u := by unfold Lib.itoa; rw [if_neg (by omega)]; simp
  rw [this]
  exact dec_nat u (by omega) w
end Go.Proofs.YthaefajpdncoeaaDoor.Wt
namespace Go.Proofs.YthaefajpdncoeaaDoor.Wt
open Go.ChangeShapes Go.WideShapes Go.ChangeAt Go.RowKit
open Go.Proofs.YthaefajpdncoeaaDoor.Pl
set_option linter.unusedVariables false

theorem weightShown_any (n : Int) (w : World) :
    Calls Tryd.prog 21 #[.int .i64 n] w fun e w' => e = .returned (.tuple #[.string (showR n).1, .int .i64 (showR n).2]) ∧ Below w.heap.size w w' := by
  rcases bool_cases (wtB n) with h | h
  · by_cases g : n = 1000000001
    · subst g
      have HQ : Hid (showR 1000000001 = (⟨#[105, 110, 102]⟩, 0)) := showR_inf
      have HH : Hid (wtB 1000000001 = true) := h
      clear h
      go_enter Tryd.func21, Tryd.ntmps21
      go_wp2_with (first | (go_at_call 37; refine (isWeight_of _ true _ HH.out).mono ?_; rintro e w' ⟨rfl, rfl⟩))
      go_ret2
      exact ⟨ret_sp HQ.out, Below.refl _ _⟩
    · have HQ : Hid (showR n = (⟨(Lib.itoa n).toArray⟩, 0)) := showR_num h g
      have HH : Hid (wtB n = true) := h
      have hb := wtB_true.1 h
      have hg : (n == 1000000001) = false := by simpa using g
      have hb2 : 0 ≤ n ∧ n ≤ 1000000000 := by omega
      clear h g hb
      generalize hs : (⟨(Lib.itoa n).toArray⟩ : ByteArray) = s at HQ
      have HS : Hid ((⟨(Lib.itoa n).toArray⟩ : ByteArray) = s) := hs
      clear hs
      go_enter Tryd.func21, Tryd.ntmps21
      go_wp2_with (first | (go_at_call 37; refine (isWeight_of _ true _ HH.out).mono ?_; rintro e w' ⟨rfl, rfl⟩) | (go_at_call 20; refine (dec_any _ _ (by omega) (by omega) s HS.out).mono ?_; rintro e w' ⟨rfl, hb⟩))
      go_ret2
      exact ⟨ret_sp HQ.out, hb⟩
  · have HQ : Hid (showR n = (⟨#[]⟩, 2)) := showR_bad h
    have HH : Hid (wtB n = false) := h
    clear h
    go_enter Tryd.func21, Tryd.ntmps21
    go_wp2_with (first | (go_at_call 37; refine (isWeight_of _ false _ HH.out).mono ?_; rintro e w' ⟨rfl, rfl⟩))
    go_ret2
    exact ⟨ret_sp HQ.out, Below.refl _ _⟩
end Go.Proofs.YthaefajpdncoeaaDoor.Wt
namespace Go.Proofs.YthaefajpdncoeaaDoor.Pl
theorem textS_app (a b : List UInt8) : textS a ++ textS b = textS (a ++ b) := by
  apply bytes_inj2
  simp [textS]
theorem fin_show {f : Int} (h : finB f = true) : Wt.showR f = (textS (finT f), 0) := by
  by_cases e : f = 1000000001
  · subst e; rw [Wt.showR_inf]; rfl
  · simp [finB, inB, e] at h
    rw [Wt.showR_num (wtB_true.2 (.inr h)) e]
    unfold finT decT
    rw [if_neg e]
    have : Lib.itoa f = Lib.decDigits f.toNat := by
      obtain ⟨u, rfl⟩ := Int.eq_ofNat_of_zero_le h.1
      unfold Lib.itoa; rw [if_neg (by omega)]
    rw [this]; rfl
/-- The text of the first k states. -/
def textTk (z : Int) (l : List St) (k : Nat) : List UInt8 := headT z ++ (l.take k).flatMap txtS
def textTa (z : Int) (l : List St) (k j : Nat) : List UInt8 := textTk z l k ++ stT (el l k).1 ++ ((el l k).2.take j).flatMap arcT
theorem textTk_all (z : Int) (l : List St) : textTk z l l.length = textM (z, l) := by unfold textTk; rw [List.take_length, textM_eq]
theorem textTk_succ {z : Int} {l : List St} {k : Nat} (h : k < l.length) : textTk z l (k + 1) = textTa z l k (el l k).2.length := by
  unfold textTk textTa textTk
  rw [states_take h, List.take_length]
  simp [txtS]
theorem textTa_succ {z : Int} {l : List St} {k j : Nat} (h : j < (el l k).2.length) : textTa z l k (j + 1) = textTa z l k j ++ arcT (el (el l k).2 j) := by
  unfold textTa
  rw [arcs_take h]
  simp
theorem textTa_zero (z : Int) (l : List St) (k : Nat) : textTa z l k 0 = textTk z l k ++ stT (el l k).1 := by simp [textTa]
theorem textM_short {z : Int} {l : List St} (h : faultM (z, l) = 0) : (textM (z, l)).length ≤ 20000 := by
  have h1 := right_size h
  have h2 := (faultM_zero h).2
  simp only [rangeB, Bool.and_eq_true, inB, decide_eq_true_eq] at h2
  rw [textM_eq, List.length_append]
  have h3 := headT_short (z := z) (by omega)
  have h4 := states_short h1.1 (l := l) (fun s hs => by
    obtain ⟨j, hj, rfl⟩ := mem_el hs
    have h5 := right_st h hj
    exact ⟨h5.1, fun a ha => List.all_eq_true.1 h5.2 a ha⟩)
  simp only
  omega
theorem textTa_le {z : Int} {l : List St} {k j : Nat} (hk : k < l.length) : (textTa z l k j).length ≤ (textM (z, l)).length := by
  have h1 : (textTa z l k j).length ≤ (textTa z l k (el l k).2.length).length := by
    unfold textTa
    rw [List.length_append, List.length_append (bs := ((el l k).2.take (el l k).2.length).flatMap arcT), List.take_length]
    have : (((el l k).2.take j).flatMap arcT).length ≤ ((el l k).2.flatMap arcT).length := by
      conv => rhs; rw [← List.take_append_drop j (el l k).2, List.flatMap_append, List.length_append]
      omega
    omega
  rw [← textTk_succ hk] at h1
  refine Nat.le_trans h1 ?_
  rw [← textTk_all]
  unfold textTk
  rw [List.length_append, List.length_append, List.take_length]
  have : ((l.take (k + 1)).flatMap txtS).length ≤ (l.flatMap txtS).length := by
    conv => rhs; rw [← List.take_append_drop (k + 1) l, List.flatMap_append, List.length_append]
    omega
  omega
theorem textTk_le {z : Int} {l : List St} {k : Nat} (hk : k < l.length) : (textTk z l k).length ≤ (textM (z, l)).length := by
  have h1 := textTa_le (z := z) (j := 0) hk
  rw [textTa_zero, List.length_append] at h1
  omega
end Go.Proofs.YthaefajpdncoeaaDoor.Pl
namespace Go.Proofs.YthaefajpdncoeaaDoor.Wt
open Go.ChangeShapes Go.WideShapes Go.ChangeAt Go.RowKit
open Go.Proofs.YthaefajpdncoeaaDoor.Pl
set_option linter.unusedVariables false
set_option linter.unusedSimpArgs false
theorem dec_t (n : Int) (w : World) (h0 : 0 ≤ n) (h1 : n ≤ 2000000000) :
    Calls Tryd.prog 20 #[.int .i64 n] w fun e w' => e = .returned (.string (textS (decT n))) ∧ Below w.heap.size w w' := by
  refine dec_any n w h0 (by omega) _ ?_
  obtain ⟨u, rfl⟩ := Int.eq_ofNat_of_zero_le h0
  have : Lib.itoa (u : Int) = Lib.decDigits u := by unfold Lib.itoa; rw [if_neg (by omega)]; simp
  show ByteArray.mk (Lib.itoa (u : Int)).toArray = _
  rw [this]; rfl
/-- An arc's cells. -/
def HeldQ (b o : Nat) (x0 x1 x2 x3 : Int) (w : World) : Prop := w.cell? ⟨b, o, none⟩ = some (.int .i64 x0) ∧ w.cell? ⟨b, o + 1, none⟩ = some (.int .i64 x1) ∧ w.cell? ⟨b, o + 2, none⟩ = some (.int .i64 x2) ∧ w.cell? ⟨b, o + 3, none⟩ = some (.int .i64 x3)
theorem HeldQ.later {b o : Nat} {x0 x1 x2 x3 : Int} {w w' : World} {B : Nat} (h : HeldQ b o x0 x1 x2 x3 w) (hb : Below B w w') (hB : b < B) : HeldQ b o x0 x1 x2 x3 w' := ⟨(hb.cell (p := ⟨b, o, none⟩) hB).trans h.1, (hb.cell (p := ⟨b, o + 1, none⟩) hB).trans h.2.1, (hb.cell (p := ⟨b, o + 2, none⟩) hB).trans h.2.2.1, (hb.cell (p := ⟨b, o + 3, none⟩) hB).trans h.2.2.2⟩
set_option maxRecDepth 100000 in
set_option maxHeartbeats 3200000 in
theorem shownR_okN (z : Int) (l : List St) (vs : Value) (w : World) (h : Mach w (.agg #[.int .i64 z, vs]) (z, l)) (hok : okM (z, l)) (hr : faultM (z, l) = 0) (hz0 : z < 0) :
    Calls Tryd.prog 9 #[.agg #[.int .i64 z, vs]] w fun e w' => e = .returned (.tuple #[.string (textS (textM (z, l))), .int .i64 0]) ∧ Below w.heap.size w w' := by
  have HM : Hid (Mach w (.agg #[.int .i64 z, vs]) (z, l)) := h
  have HK : Hid (okM (z, l)) := hok
  have HR : Hid (faultM (z, l) = 0) := hr
  have hz := (faultM_zero hr).2
  simp only [rangeB, Bool.and_eq_true, inB, decide_eq_true_eq] at hz
  have hz1 : -1 ≤ z := hz.1.1
  have h60 := (right_size hr).1
  have hz2 : z ≤ 60 := by omega
  obtain ⟨vs', hvs, hS⟩ := h
  simp only [Value.agg.injEq, Array.mk.injEq, List.cons.injEq, and_true, true_and] at hvs
  subst hvs
  obtain ⟨a, cap, rfl, hc⟩ := hS.get
  have HC : Hid (∀ j, j < l.length → ∃ b off va, a = some ⟨b, off, none⟩ ∧ b < w.heap.size ∧ w.cell? ⟨b, off + j * 2, none⟩ = some (.int .i64 (el l j).1) ∧ w.cell? ⟨b, off + j * 2 + 1, none⟩ = some va ∧ Arcs w va (el l j).2) := hc
  have HST : Hid (∀ j, j < l.length → finB (el l j).1 = true ∧ (el l j).2.all (arcB l.length) = true ∧ (el l j).2.length ≤ 400) := fun j hj => ⟨(right_st hr hj).1, (right_st hr hj).2, by
    have h1 := arcN_take hj
    have h2 : arcN (l.take (j + 1)) ≤ arcN l := by
      conv => rhs; rw [← List.take_append_drop (j + 1) l, arcN_append]
      omega
    have h3 := (right_size hr).2
    omega⟩
  have hts := textM_short hr
  have HTA : Hid (∀ k j, k < l.length → (textTa z l k j).length ≤ 20000) := fun k j hk => Nat.le_trans (textTa_le hk) hts
  have HTK : Hid (∀ k, k < l.length → (textTk z l k).length ≤ 20000) := fun k hk => Nat.le_trans (textTk_le hk) hts
  have HTN : Hid (textTk z l l.length = textM (z, l)) := textTk_all z l
  have HTS : Hid (∀ k, k < l.length → textTk z l (k + 1) = textTa z l k (el l k).2.length) := fun k hk => textTk_succ hk
  have HD1 : Hid (∀ W : World, 0 ≤ z → Calls Tryd.prog 20 #[.int .i64 z] W fun e w' => e = .returned (.string (textS (decT z))) ∧ Below W.heap.size W w') := fun W h0 => dec_t z W h0 (by omega)
  have HZ0 : Hid (z < 0 → textTk z l 0 = [115, 116, 97, 114, 116, 32, 45, 10]) := fun h0 => by
    show headT z ++ _ = _
    rw [headT_eq, startT, if_pos h0]; simp
  have HZ1 : Hid (0 ≤ z → (⟨#[115, 116, 97, 114, 116, 32]⟩ : ByteArray) ++ textS (decT z) ++ ⟨#[10]⟩ = textS (textTk z l 0)) := fun h0 => by
    show textS [115, 116, 97, 114, 116, 32] ++ textS (decT z) ++ textS [10] = textS (headT z ++ _)
    rw [headT_eq, startT, if_neg (by omega), textS_app, textS_app]; simp
  have hdz : (textS (decT z)).size ≤ 10 := dec_short (by omega)
  clear hS hc hr hz hok hts
  generalize hn : l.length = n at *
  have HN : Hid (l.length = n) := hn
  clear hn
  generalize textM (z, l) = TM at *
  generalize textS (decT z) = DZ at *
  go_enter Tryd.func9, Tryd.ntmps9
  go_wp2_with (first
    | (go_at_call 19; (with_reducible refine (fault_any _ (z, l) _ (HM.out.later (B := w.heap.size) (by go_grown) (Nat.le_refl _)) HK.out 0 HR.out).mono ?_); rintro e w1 ⟨rfl, hb⟩; obtain ⟨s1, b1, hb1⟩ := boxed hb (by simp); have HB1 : Hid (Below w.heap.size w w1) := hb1; have K1 : Hid (Blk w1 w.heap.size #[.int .i64 z, .slice a n cap] 24) := b1; have c0 := b1.cell 0 (v := .int .i64 z) rfl; clear b1 hb1 hb)
    | (go_at_call 20; (with_reducible refine (HD1.out _ (by omega)).mono ?_); rintro e w2 ⟨rfl, hb⟩; have HB2 : Hid (Below w.heap.size w w2) := HB1.out.trans (hb.mono HB1.out.size); have K2 : Hid (Blk w2 w.heap.size #[.int .i64 z, .slice a n cap] 24) := K1.out.below hb K1.out.lt; clear hb))
  go_loopw [5, 6] (fun s5 i wr => ∃ (k : Nat), k ≤ n ∧ s5 = .string (textS (textTk z l k)) ∧ i = .int .i64 k ∧ Hid (Blk wr w.heap.size #[.int .i64 z, .slice a n cap] 24) ∧ Hid (Below w.heap.size w wr)) (fun _ i _ => n - (intOf i).toNat)
  case atStart =>
    first
      | exact ⟨0, Nat.zero_le _, by rw [HZ0.out (by omega)]; rfl, rfl, K1, HB1⟩
      | exact ⟨0, Nat.zero_le _, by rw [HZ1.out (by omega)], rfl, K2, HB2⟩
  case round =>
    clear HZ0 HZ1 HD1 hdz
    obtain ⟨k, hk, rfl, rfl, hbx, hb⟩ := hrel
    have c1 := hbx.out.cell 1 (v := .slice a n cap) rfl
    by_cases hkn : k < n
    · obtain ⟨b, off, va, rfl, hbl, g0, g1, gA⟩ := HC.out k hkn
      obtain ⟨a2, cap2, hva, hga⟩ := gA.get
      subst hva
      have G1 : Hid (w.cell? ⟨b, off + k * 2 + 1, none⟩ = some (.slice a2 (el l k).2.length cap2)) := g1
      have g0 := (hb.out.cell (p := ⟨b, off + k * 2, none⟩) hbl).trans g0
      have HGA : Hid (∀ j, j < (el l k).2.length → ∃ b off, a2 = some ⟨b, off, none⟩ ∧ b < w.heap.size ∧ w.cell? ⟨b, off + j * 4, none⟩ = some (.int .i64 (el (el l k).2 j).1) ∧ w.cell? ⟨b, off + j * 4 + 1, none⟩ = some (.int .i64 (el (el l k).2 j).2.1) ∧ w.cell? ⟨b, off + j * 4 + 2, none⟩ = some (.int .i64 (el (el l k).2 j).2.2.1) ∧ w.cell? ⟨b, off + j * 4 + 3, none⟩ = some (.int .i64 (el (el l k).2 j).2.2.2)) := hga
      obtain ⟨hfin, harc, hL4⟩ := HST.out k hkn
      have HAR : Hid ((el l k).2.all (arcB n) = true) := harc
      have HWS : Hid (∀ W : World, Calls Tryd.prog 21 #[.int .i64 (el l k).1] W fun e w' => e = .returned (.tuple #[.string (textS (finT (el l k).1)), .int .i64 0]) ∧ Below W.heap.size W w') := fun W => by
        have h9 := weightShown_any (el l k).1 W
        rw [fin_show hfin] at h9
        exact h9
      have hfs : (textS (finT (el l k).1)).size ≤ 10 := fin_short hfin
      have hks : (textS (textTk z l k)).size ≤ 20000 := HTK.out k hkn
      have HT0 : Hid (textS (textTk z l k) ++ ⟨#[115, 116, 97, 116, 101, 32]⟩ ++ textS (finT (el l k).1) ++ ⟨#[10]⟩ = textS (textTa z l k 0)) := by
        show textS (textTk z l k) ++ textS [115, 116, 97, 116, 101, 32] ++ textS (finT (el l k).1) ++ textS [10] = _
        rw [textTa_zero, stT_eq, textS_app, textS_app, textS_app]; simp
      have HTJ : Hid (∀ j, j < (el l k).2.length → textTa z l k (j + 1) = textTa z l k j ++ arcT (el (el l k).2 j)) := fun j hj => textTa_succ hj
      have HTE : Hid (textTk z l (k + 1) = textTa z l k (el l k).2.length) := HTS.out k hkn
      have HTB : Hid (∀ j, (textTa z l k j).length ≤ 20000) := fun j => HTA.out k j hkn
      clear g1 gA hga harc hfin
      generalize textS (finT (el l k).1) = FT at *
      generalize (el l k).1 = fin at *
      generalize (el l k).2 = ar at *
      generalize textTa z l k = TA at *
      generalize hL : ar.length = L at *
      have HL : Hid (ar.length = L) := hL
      clear hL
      generalize textS (textTk z l k) = AC at *
      have hk0 : (0 : Int) ≤ (k : Int) := by omega
      have hk1 : (k : Int) < (n : Int) := by omega
      have n1 : ¬ 9223372036854775807 < AC.size + 6 := by omega
      have n2 : ¬ 9223372036854775807 < AC.size + 6 + FT.size := by omega
      have n3 : ¬ 9223372036854775807 < AC.size + 6 + FT.size + 1 := by omega
      go_wp2_with (first
        | (go_at_call 21; (with_reducible refine (HWS.out _).mono ?_); rintro e w3 ⟨rfl, hb3⟩; have HB3 : Hid (Below w.heap.size w w3) := hb.out.trans (hb3.mono hb.out.size); have K3 : Hid (Blk w3 w.heap.size #[.int .i64 z, .slice (some ⟨b, off, none⟩) n cap] 24) := hbx.out.below hb3 hbx.out.lt; have c3 := K3.out.cell 1 (v := .slice (some ⟨b, off, none⟩) n cap) rfl; have g3 := (HB3.out.cell (p := ⟨b, off + k * 2 + 1, none⟩) hbl).trans G1.out; clear hb3))
      go_loopw [5, 10] (fun s5 i wr => ∃ (j : Nat), j ≤ L ∧ s5 = .string (textS (TA j)) ∧ i = .int .i64 j ∧ Hid (Blk wr w.heap.size #[.int .i64 z, .slice (some ⟨b, off, none⟩) n cap] 24) ∧ Hid (Below w.heap.size w wr)) (fun _ i _ => L - (intOf i).toNat)
      case atStart => exact ⟨0, Nat.zero_le _, by rw [HT0.out], rfl, K3, HB3⟩
      case round =>
        clear HT0 HWS K3 HB3 c3 g3 c1 g0 hbx hb
        obtain ⟨j, hj, rfl, rfl, hbx, hb⟩ := hrel
        by_cases hjL : j < L
        · obtain ⟨b3, off3, rfl, hb3l, e0, e1, e2, e3⟩ := HGA.out j hjL
          have hcar := List.all_eq_true.1 HAR.out (el ar j) (el_mem (by rw [HL.out]; exact hjL))
          have hcb := hcar
          simp only [arcB, inB, Bool.and_eq_true, decide_eq_true_eq] at hcb
          have HJ := HTJ.out j hjL
          rw [arcT_eq] at HJ
          have hjs : (textS (TA j)).size ≤ 20000 := HTB.out j
          generalize el ar j = c at *
          generalize hx0 : c.1 = x0 at *
          generalize hx1 : c.2.1 = x1 at *
          generalize hx2 : c.2.2.1 = x2 at *
          generalize hx3 : c.2.2.2 = x3 at *
          have hr0 : 0 ≤ x0 ∧ x0 ≤ 1000000000 := by omega
          have hr1 : 0 ≤ x1 ∧ x1 ≤ 1000000000 := by omega
          have hr2 : 0 ≤ x2 ∧ x2 ≤ 1000000000 := by omega
          have hr3 : 0 ≤ x3 ∧ x3 ≤ 1000000000 := by omega
          clear hx0 hx1 hx2 hx3 hcar hcb
          have E0 : Hid (∀ W : World, Calls Tryd.prog 20 #[.int .i64 x0] W fun e w' => e = .returned (.string (textS (decT x0))) ∧ Below W.heap.size W w') := fun W => dec_t x0 W hr0.1 (by omega)
          have E1 : Hid (∀ W : World, Calls Tryd.prog 20 #[.int .i64 x1] W fun e w' => e = .returned (.string (textS (decT x1))) ∧ Below W.heap.size W w') := fun W => dec_t x1 W hr1.1 (by omega)
          have E2 : Hid (∀ W : World, Calls Tryd.prog 20 #[.int .i64 x2] W fun e w' => e = .returned (.string (textS (decT x2))) ∧ Below W.heap.size W w') := fun W => dec_t x2 W hr2.1 (by omega)
          have E3 : Hid (∀ W : World, Calls Tryd.prog 20 #[.int .i64 x3] W fun e w' => e = .returned (.string (textS (decT x3))) ∧ Below W.heap.size W w') := fun W => dec_t x3 W hr3.1 (by omega)
          have l0 : (textS (decT x0)).size ≤ 10 := dec_short (by omega)
          have l1 : (textS (decT x1)).size ≤ 10 := dec_short (by omega)
          have l2 : (textS (decT x2)).size ≤ 10 := dec_short (by omega)
          have l3 : (textS (decT x3)).size ≤ 10 := dec_short (by omega)
          have HJ2 : Hid (textS (TA j) ++ ⟨#[97, 114, 99, 32]⟩ ++ textS (decT x3) ++ ⟨#[32]⟩ ++ textS (decT x0) ++ ⟨#[32]⟩ ++ textS (decT x1) ++ ⟨#[32]⟩ ++ textS (decT x2) ++ ⟨#[10]⟩ = textS (TA (j + 1))) := by
            show textS (TA j) ++ textS [97, 114, 99, 32] ++ textS (decT x3) ++ textS [32] ++ textS (decT x0) ++ textS [32] ++ textS (decT x1) ++ textS [32] ++ textS (decT x2) ++ textS [10] = _
            rw [HJ]
            simp only [textS_app, List.append_assoc]
          clear HJ
          generalize textS (decT x0) = D0 at *
          generalize textS (decT x1) = D1 at *
          generalize textS (decT x2) = D2 at *
          generalize textS (decT x3) = D3 at *
          generalize textS (TA j) = AC2 at *
          have hj0 : (0 : Int) ≤ (j : Int) := by omega
          have hj1 : (j : Int) < (L : Int) := by omega
          have HS0 : HeldQ b3 (off3 + j * 4) x0 x1 x2 x3 wr := ⟨(hb.out.cell (p := ⟨b3, off3 + j * 4, none⟩) hb3l).trans e0, (hb.out.cell (p := ⟨b3, off3 + j * 4 + 1, none⟩) hb3l).trans e1, (hb.out.cell (p := ⟨b3, off3 + j * 4 + 2, none⟩) hb3l).trans e2, (hb.out.cell (p := ⟨b3, off3 + j * 4 + 3, none⟩) hb3l).trans e3⟩
          clear e0 e1 e2 e3
          have m1 : ¬ 9223372036854775807 < AC2.size + 4 := by omega
          have m2 : ¬ 9223372036854775807 < AC2.size + 4 + D3.size := by omega
          have m3 : ¬ 9223372036854775807 < AC2.size + 4 + D3.size + 1 := by omega
          have m4 : ¬ 9223372036854775807 < AC2.size + 4 + D3.size + 1 + D0.size := by omega
          have m5 : ¬ 9223372036854775807 < AC2.size + 4 + D3.size + 1 + D0.size + 1 := by omega
          have m6 : ¬ 9223372036854775807 < AC2.size + 4 + D3.size + 1 + D0.size + 1 + D1.size := by omega
          have m7 : ¬ 9223372036854775807 < AC2.size + 4 + D3.size + 1 + D0.size + 1 + D1.size + 1 := by omega
          have m8 : ¬ 9223372036854775807 < AC2.size + 4 + D3.size + 1 + D0.size + 1 + D1.size + 1 + D2.size := by omega
          have m9 : ¬ 9223372036854775807 < AC2.size + 4 + D3.size + 1 + D0.size + 1 + D1.size + 1 + D2.size + 1 := by omega
          go_wp2
          have HBD : Hid (Below w.heap.size w wr.drew) := hb.out.drew
          have HXD : Hid (Blk wr.drew w.heap.size #[.int .i64 z, .slice (some ⟨b, off, none⟩) n cap] 24) := hbx.out.drew
          have HSD : HeldQ b3 (off3 + j * 4) x0 x1 x2 x3 wr.drew := HS0
          refine region_anyL (HeldQ b3 (off3 + j * 4) x0 x1 x2 x3) 1000 (by kernel_rfl) ?_
          generalize wr.drew = W0 at *
          refine anyL_take (i := 0) (v := ?v0_10) at0 (by kernel_rfl) (by kernel_rfl) (by kernel_rfl) (by kernel_rfl) (fun _ _ _ h => h) rfl ?y0_10 HSD ?r0_10
          case y0_10 => intro wx hx; obtain ⟨h1, h2, h3, h4⟩ := hx; go_simp; try (with_reducible rfl)
          simp only [Act.put, List.setIfInBounds_toArray, List.set_cons_zero, List.set_cons_succ]
          refine anyL_take (i := 1) (v := ?v1_11) (atS at0) (by kernel_rfl) (by kernel_rfl) (by kernel_rfl) (by kernel_rfl) (fun _ _ _ h => h) rfl ?y1_11 HSD ?r1_11
          case y1_11 => intro wx hx; obtain ⟨h1, h2, h3, h4⟩ := hx; go_simp; try (with_reducible rfl)
          simp only [Act.put, List.setIfInBounds_toArray, List.set_cons_zero, List.set_cons_succ]
          refine anyL_take (i := 2) (v := ?v2_12) (atS (atS at0)) (by kernel_rfl) (by kernel_rfl) (by kernel_rfl) (by kernel_rfl) (fun _ _ _ h => h) rfl ?y2_12 HSD ?r2_12
          case y2_12 => intro wx hx; obtain ⟨h1, h2, h3, h4⟩ := hx; go_simp; try (with_reducible rfl)
          simp only [Act.put, List.setIfInBounds_toArray, List.set_cons_zero, List.set_cons_succ]
          refine anyL_take (i := 3) (v := ?v3_13) (atS (atS (atS at0))) (by kernel_rfl) (by kernel_rfl) (by kernel_rfl) (by kernel_rfl) (fun _ _ _ h => h) rfl ?y3_13 HSD ?r3_13
          case y3_13 => intro wx hx; obtain ⟨h1, h2, h3, h4⟩ := hx; go_simp; try (with_reducible rfl)
          simp only [Act.put, List.setIfInBounds_toArray, List.set_cons_zero, List.set_cons_succ]
          refine anyL_take (i := 4) (v := ?v4_14) (atS (atS (atS (atS at0)))) (by kernel_rfl) (by kernel_rfl) (by kernel_rfl) (by kernel_rfl) (fun _ _ _ h => h) rfl ?y4_14 HSD ?r4_14
          case y4_14 => intro wx hx; obtain ⟨h1, h2, h3, h4⟩ := hx; go_simp; try (with_reducible rfl)
          simp only [Act.put, List.setIfInBounds_toArray, List.set_cons_zero, List.set_cons_succ]
          refine anyL_take (i := 5) (v := ?v5_15) (atS (atS (atS (atS (atS at0))))) (by kernel_rfl) (by kernel_rfl) (by kernel_rfl) (by kernel_rfl) (fun _ _ _ h => h) rfl ?y5_15 HSD ?r5_15
          case y5_15 => intro wx hx; obtain ⟨h1, h2, h3, h4⟩ := hx; go_simp; try (with_reducible rfl)
          simp only [Act.put, List.setIfInBounds_toArray, List.set_cons_zero, List.set_cons_succ]
          refine anyL_take (i := 6) (v := ?v6_16) (atS (atS (atS (atS (atS (atS at0)))))) (by kernel_rfl) (by kernel_rfl) (by kernel_rfl) (by kernel_rfl) (fun _ _ _ h => h) rfl ?y6_16 HSD ?r6_16
          case y6_16 => intro wx hx; obtain ⟨h1, h2, h3, h4⟩ := hx; go_simp; try (with_reducible rfl)
          simp only [Act.put, List.setIfInBounds_toArray, List.set_cons_zero, List.set_cons_succ]
          refine anyL_take (i := 10) (v := ?v10_17) (atS (atS (atS (atS (atS (atS (atS (atS (atS (atS at0)))))))))) (by kernel_rfl) (by kernel_rfl) (by kernel_rfl) (by kernel_rfl) (fun _ _ _ h => h) rfl ?y10_17 HSD ?r10_17
          case y10_17 => intro wx hx; obtain ⟨h1, h2, h3, h4⟩ := hx; go_simp; try (with_reducible rfl)
          simp only [Act.put, List.setIfInBounds_toArray, List.set_cons_zero, List.set_cons_succ]
          refine anyL_take (i := 11) (v := ?v11_18) (atS (atS (atS (atS (atS (atS (atS (atS (atS (atS (atS at0))))))))))) (by kernel_rfl) (by kernel_rfl) (by kernel_rfl) (by kernel_rfl) (fun _ _ _ h => h) rfl ?y11_18 HSD ?r11_18
          case y11_18 => intro wx hx; obtain ⟨h1, h2, h3, h4⟩ := hx; go_simp; try (with_reducible rfl)
          simp only [Act.put, List.setIfInBounds_toArray, List.set_cons_zero, List.set_cons_succ]
          refine anyL_take (i := 12) (v := ?v12_19) (atS (atS (atS (atS (atS (atS (atS (atS (atS (atS (atS (atS at0)))))))))))) (by kernel_rfl) (by kernel_rfl) (by kernel_rfl) (by kernel_rfl) (fun _ _ _ h => h) rfl ?y12_19 HSD ?r12_19
          case y12_19 => intro wx hx; obtain ⟨h1, h2, h3, h4⟩ := hx; go_simp; try (with_reducible rfl)
          simp only [Act.put, List.setIfInBounds_toArray, List.set_cons_zero, List.set_cons_succ]
          refine anyL_take (i := 13) (v := ?v13_20) (atS (atS (atS (atS (atS (atS (atS (atS (atS (atS (atS (atS (atS at0))))))))))))) (by kernel_rfl) (by kernel_rfl) (by kernel_rfl) (by kernel_rfl) (fun _ _ _ h => h) rfl ?y13_20 HSD ?r13_20
          case y13_20 => intro wx hx; obtain ⟨h1, h2, h3, h4⟩ := hx; go_simp; try (with_reducible rfl)
          simp only [Act.put, List.setIfInBounds_toArray, List.set_cons_zero, List.set_cons_succ]
          refine anyL_take (i := 14) (v := ?v14_21) (atS (atS (atS (atS (atS (atS (atS (atS (atS (atS (atS (atS (atS (atS at0)))))))))))))) (by kernel_rfl) (by kernel_rfl) (by kernel_rfl) (by kernel_rfl) (fun _ _ _ h => h) rfl ?y14_21 HSD ?r14_21
          case y14_21 => intro wx hx; obtain ⟨h1, h2, h3, h4⟩ := hx; go_simp; try (with_reducible rfl)
          simp only [Act.put, List.setIfInBounds_toArray, List.set_cons_zero, List.set_cons_succ]
          refine anyL_take (i := 18) (v := ?v18_22) (atS (atS (atS (atS (atS (atS (atS (atS (atS (atS (atS (atS (atS (atS (atS (atS (atS (atS at0)))))))))))))))))) (by kernel_rfl) (by kernel_rfl) (by kernel_rfl) (by kernel_rfl) (fun _ _ _ h => h) rfl ?y18_22 HSD ?r18_22
          case y18_22 => intro wx hx; obtain ⟨h1, h2, h3, h4⟩ := hx; go_simp; try (with_reducible rfl)
          simp only [Act.put, List.setIfInBounds_toArray, List.set_cons_zero, List.set_cons_succ]
          refine anyL_take (i := 19) (v := ?v19_23) (atS (atS (atS (atS (atS (atS (atS (atS (atS (atS (atS (atS (atS (atS (atS (atS (atS (atS (atS at0))))))))))))))))))) (by kernel_rfl) (by kernel_rfl) (by kernel_rfl) (by kernel_rfl) (fun _ _ _ h => h) rfl ?y19_23 HSD ?r19_23
          case y19_23 => intro wx hx; obtain ⟨h1, h2, h3, h4⟩ := hx; go_simp; try (with_reducible rfl)
          simp only [Act.put, List.setIfInBounds_toArray, List.set_cons_zero, List.set_cons_succ]
          refine anyL_take (i := 20) (v := ?v20_24) (atS (atS (atS (atS (atS (atS (atS (atS (atS (atS (atS (atS (atS (atS (atS (atS (atS (atS (atS (atS at0)))))))))))))))))))) (by kernel_rfl) (by kernel_rfl) (by kernel_rfl) (by kernel_rfl) (fun _ _ _ h => h) rfl ?y20_24 HSD ?r20_24
          case y20_24 => intro wx hx; obtain ⟨h1, h2, h3, h4⟩ := hx; go_simp; try (with_reducible rfl)
          simp only [Act.put, List.setIfInBounds_toArray, List.set_cons_zero, List.set_cons_succ]
          refine anyL_take (i := 21) (v := ?v21_25) (atS (atS (atS (atS (atS (atS (atS (atS (atS (atS (atS (atS (atS (atS (atS (atS (atS (atS (atS (atS (atS at0))))))))))))))))))))) (by kernel_rfl) (by kernel_rfl) (by kernel_rfl) (by kernel_rfl) (fun _ _ _ h => h) rfl ?y21_25 HSD ?r21_25
          case y21_25 => intro wx hx; obtain ⟨h1, h2, h3, h4⟩ := hx; go_simp; try (with_reducible rfl)
          simp only [Act.put, List.setIfInBounds_toArray, List.set_cons_zero, List.set_cons_succ]
          refine anyL_take (i := 22) (v := ?v22_26) (atS (atS (atS (atS (atS (atS (atS (atS (atS (atS (atS (atS (atS (atS (atS (atS (atS (atS (atS (atS (atS (atS at0)))))))))))))))))))))) (by kernel_rfl) (by kernel_rfl) (by kernel_rfl) (by kernel_rfl) (fun _ _ _ h => h) rfl ?y22_26 HSD ?r22_26
          case y22_26 => intro wx hx; obtain ⟨h1, h2, h3, h4⟩ := hx; go_simp; try (with_reducible rfl)
          simp only [Act.put, List.setIfInBounds_toArray, List.set_cons_zero, List.set_cons_succ]
          refine anyL_take (i := 26) (v := ?v26_27) (atS (atS (atS (atS (atS (atS (atS (atS (atS (atS (atS (atS (atS (atS (atS (atS (atS (atS (atS (atS (atS (atS (atS (atS (atS (atS at0)))))))))))))))))))))))))) (by kernel_rfl) (by kernel_rfl) (by kernel_rfl) (by kernel_rfl) (fun _ _ _ h => h) rfl ?y26_27 HSD ?r26_27
          case y26_27 => intro wx hx; obtain ⟨h1, h2, h3, h4⟩ := hx; go_simp; try (with_reducible rfl)
          simp only [Act.put, List.setIfInBounds_toArray, List.set_cons_zero, List.set_cons_succ]
          refine anyL_take (i := 27) (v := ?v27_28) (atS (atS (atS (atS (atS (atS (atS (atS (atS (atS (atS (atS (atS (atS (atS (atS (atS (atS (atS (atS (atS (atS (atS (atS (atS (atS (atS at0))))))))))))))))))))))))))) (by kernel_rfl) (by kernel_rfl) (by kernel_rfl) (by kernel_rfl) (fun _ _ _ h => h) rfl ?y27_28 HSD ?r27_28
          case y27_28 => intro wx hx; obtain ⟨h1, h2, h3, h4⟩ := hx; go_simp; try (with_reducible rfl)
          simp only [Act.put, List.setIfInBounds_toArray, List.set_cons_zero, List.set_cons_succ]
          refine anyL_take (i := 28) (v := ?v28_29) (atS (atS (atS (atS (atS (atS (atS (atS (atS (atS (atS (atS (atS (atS (atS (atS (atS (atS (atS (atS (atS (atS (atS (atS (atS (atS (atS (atS at0)))))))))))))))))))))))))))) (by kernel_rfl) (by kernel_rfl) (by kernel_rfl) (by kernel_rfl) (fun _ _ _ h => h) rfl ?y28_29 HSD ?r28_29
          case y28_29 => intro wx hx; obtain ⟨h1, h2, h3, h4⟩ := hx; go_simp; try (with_reducible rfl)
          simp only [Act.put, List.setIfInBounds_toArray, List.set_cons_zero, List.set_cons_succ]
          refine anyL_take (i := 29) (v := ?v29_30) (atS (atS (atS (atS (atS (atS (atS (atS (atS (atS (atS (atS (atS (atS (atS (atS (atS (atS (atS (atS (atS (atS (atS (atS (atS (atS (atS (atS (atS at0))))))))))))))))))))))))))))) (by kernel_rfl) (by kernel_rfl) (by kernel_rfl) (by kernel_rfl) (fun _ _ _ h => h) rfl ?y29_30 HSD ?r29_30
          case y29_30 => intro wx hx; obtain ⟨h1, h2, h3, h4⟩ := hx; go_simp; try (with_reducible rfl)
          simp only [Act.put, List.setIfInBounds_toArray, List.set_cons_zero, List.set_cons_succ]
          refine anyL_take (i := 30) (v := ?v30_31) (atS (atS (atS (atS (atS (atS (atS (atS (atS (atS (atS (atS (atS (atS (atS (atS (atS (atS (atS (atS (atS (atS (atS (atS (atS (atS (atS (atS (atS (atS at0)))))))))))))))))))))))))))))) (by kernel_rfl) (by kernel_rfl) (by kernel_rfl) (by kernel_rfl) (fun _ _ _ h => h) rfl ?y30_31 HSD ?r30_31
          case y30_31 => intro wx hx; obtain ⟨h1, h2, h3, h4⟩ := hx; go_simp; try (with_reducible rfl)
          simp only [Act.put, List.setIfInBounds_toArray, List.set_cons_zero, List.set_cons_succ]
          refine anyL_one (i := 7) (atS (atS (atS (atS (atS (atS (atS at0))))))) (by kernel_rfl) rfl (fun K hK => ?_)
          go_simp
          refine (E3.out _).mono ?_
          rintro e w3 ⟨rfl, hbc⟩
          have HS3 : HeldQ b3 (off3 + j * 4) x0 x1 x2 x3 w3 := HSD.later hbc (Nat.lt_of_lt_of_le hb3l HBD.out.size)
          have HB3 : Hid (Below w.heap.size w w3) := HBD.out.trans (hbc.mono HBD.out.size)
          have HX3 : Hid (Blk w3 w.heap.size #[.int .i64 z, .slice (some ⟨b, off, none⟩) n cap] 24) := HXD.out.below hbc HXD.out.lt
          refine hK _ _ (.inr HS3) ?_
          try simp only [Act.put, List.setIfInBounds_toArray, List.set_cons_zero, List.set_cons_succ]
          clear hbc
          refine anyL_take (i := 8) (v := ?v8_32) (atS (atS (atS (atS (atS (atS (atS (atS at0)))))))) (by kernel_rfl) (by kernel_rfl) (by kernel_rfl) (by kernel_rfl) (fun _ _ _ h => h) rfl ?y8_32 HS3 ?r8_32
          case y8_32 => intro wx hx; obtain ⟨h1, h2, h3, h4⟩ := hx; go_simp; try (with_reducible rfl)
          simp only [Act.put, List.setIfInBounds_toArray, List.set_cons_zero, List.set_cons_succ]
          refine anyL_take (i := 9) (v := ?v9_33) (atS (atS (atS (atS (atS (atS (atS (atS (atS at0))))))))) (by kernel_rfl) (by kernel_rfl) (by kernel_rfl) (by kernel_rfl) (fun _ _ _ h => h) rfl ?y9_33 HS3 ?r9_33
          case y9_33 => intro wx hx; obtain ⟨h1, h2, h3, h4⟩ := hx; go_simp; try (with_reducible rfl)
          simp only [Act.put, List.setIfInBounds_toArray, List.set_cons_zero, List.set_cons_succ]
          refine anyL_one (i := 15) (atS (atS (atS (atS (atS (atS (atS (atS (atS (atS (atS (atS (atS (atS (atS at0))))))))))))))) (by kernel_rfl) rfl (fun K hK => ?_)
          go_simp
          refine (E0.out _).mono ?_
          rintro e w4 ⟨rfl, hbc⟩
          have HS4 : HeldQ b3 (off3 + j * 4) x0 x1 x2 x3 w4 := HS3.later hbc (Nat.lt_of_lt_of_le hb3l HB3.out.size)
          have HB4 : Hid (Below w.heap.size w w4) := HB3.out.trans (hbc.mono HB3.out.size)
          have HX4 : Hid (Blk w4 w.heap.size #[.int .i64 z, .slice (some ⟨b, off, none⟩) n cap] 24) := HX3.out.below hbc HX3.out.lt
          refine hK _ _ (.inr HS4) ?_
          try simp only [Act.put, List.setIfInBounds_toArray, List.set_cons_zero, List.set_cons_succ]
          clear hbc
          refine anyL_take (i := 16) (v := ?v16_34) (atS (atS (atS (atS (atS (atS (atS (atS (atS (atS (atS (atS (atS (atS (atS (atS at0)))))))))))))))) (by kernel_rfl) (by kernel_rfl) (by kernel_rfl) (by kernel_rfl) (fun _ _ _ h => h) rfl ?y16_34 HS4 ?r16_34
          case y16_34 => intro wx hx; obtain ⟨h1, h2, h3, h4⟩ := hx; go_simp; try (with_reducible rfl)
          simp only [Act.put, List.setIfInBounds_toArray, List.set_cons_zero, List.set_cons_succ]
          refine anyL_take (i := 17) (v := ?v17_35) (atS (atS (atS (atS (atS (atS (atS (atS (atS (atS (atS (atS (atS (atS (atS (atS (atS at0))))))))))))))))) (by kernel_rfl) (by kernel_rfl) (by kernel_rfl) (by kernel_rfl) (fun _ _ _ h => h) rfl ?y17_35 HS4 ?r17_35
          case y17_35 => intro wx hx; obtain ⟨h1, h2, h3, h4⟩ := hx; go_simp; try (with_reducible rfl)
          simp only [Act.put, List.setIfInBounds_toArray, List.set_cons_zero, List.set_cons_succ]
          refine anyL_one (i := 23) (atS (atS (atS (atS (atS (atS (atS (atS (atS (atS (atS (atS (atS (atS (atS (atS (atS (atS (atS (atS (atS (atS (atS at0))))))))))))))))))))))) (by kernel_rfl) rfl (fun K hK => ?_)
          go_simp
          refine (E1.out _).mono ?_
          rintro e w5 ⟨rfl, hbc⟩
          have HS5 : HeldQ b3 (off3 + j * 4) x0 x1 x2 x3 w5 := HS4.later hbc (Nat.lt_of_lt_of_le hb3l HB4.out.size)
          have HB5 : Hid (Below w.heap.size w w5) := HB4.out.trans (hbc.mono HB4.out.size)
          have HX5 : Hid (Blk w5 w.heap.size #[.int .i64 z, .slice (some ⟨b, off, none⟩) n cap] 24) := HX4.out.below hbc HX4.out.lt
          refine hK _ _ (.inr HS5) ?_
          try simp only [Act.put, List.setIfInBounds_toArray, List.set_cons_zero, List.set_cons_succ]
          clear hbc
          refine anyL_take (i := 24) (v := ?v24_36) (atS (atS (atS (atS (atS (atS (atS (atS (atS (atS (atS (atS (atS (atS (atS (atS (atS (atS (atS (atS (atS (atS (atS (atS at0)))))))))))))))))))))))) (by kernel_rfl) (by kernel_rfl) (by kernel_rfl) (by kernel_rfl) (fun _ _ _ h => h) rfl ?y24_36 HS5 ?r24_36
          case y24_36 => intro wx hx; obtain ⟨h1, h2, h3, h4⟩ := hx; go_simp; try (with_reducible rfl)
          simp only [Act.put, List.setIfInBounds_toArray, List.set_cons_zero, List.set_cons_succ]
          refine anyL_take (i := 25) (v := ?v25_37) (atS (atS (atS (atS (atS (atS (atS (atS (atS (atS (atS (atS (atS (atS (atS (atS (atS (atS (atS (atS (atS (atS (atS (atS (atS at0))))))))))))))))))))))))) (by kernel_rfl) (by kernel_rfl) (by kernel_rfl) (by kernel_rfl) (fun _ _ _ h => h) rfl ?y25_37 HS5 ?r25_37
          case y25_37 => intro wx hx; obtain ⟨h1, h2, h3, h4⟩ := hx; go_simp; try (with_reducible rfl)
          simp only [Act.put, List.setIfInBounds_toArray, List.set_cons_zero, List.set_cons_succ]
          refine anyL_one (i := 31) (atS (atS (atS (atS (atS (atS (atS (atS (atS (atS (atS (atS (atS (atS (atS (atS (atS (atS (atS (atS (atS (atS (atS (atS (atS (atS (atS (atS (atS (atS (atS at0))))))))))))))))))))))))))))))) (by kernel_rfl) rfl (fun K hK => ?_)
          go_simp
          refine (E2.out _).mono ?_
          rintro e w6 ⟨rfl, hbc⟩
          have HS6 : HeldQ b3 (off3 + j * 4) x0 x1 x2 x3 w6 := HS5.later hbc (Nat.lt_of_lt_of_le hb3l HB5.out.size)
          have HB6 : Hid (Below w.heap.size w w6) := HB5.out.trans (hbc.mono HB5.out.size)
          have HX6 : Hid (Blk w6 w.heap.size #[.int .i64 z, .slice (some ⟨b, off, none⟩) n cap] 24) := HX5.out.below hbc HX5.out.lt
          refine hK _ _ (.inr HS6) ?_
          try simp only [Act.put, List.setIfInBounds_toArray, List.set_cons_zero, List.set_cons_succ]
          clear hbc
          refine anyL_take (i := 32) (v := ?v32_38) (atS (atS (atS (atS (atS (atS (atS (atS (atS (atS (atS (atS (atS (atS (atS (atS (atS (atS (atS (atS (atS (atS (atS (atS (atS (atS (atS (atS (atS (atS (atS (atS at0)))))))))))))))))))))))))))))))) (by kernel_rfl) (by kernel_rfl) (by kernel_rfl) (by kernel_rfl) (fun _ _ _ h => h) rfl ?y32_38 HS6 ?r32_38
          case y32_38 => intro wx hx; obtain ⟨h1, h2, h3, h4⟩ := hx; go_simp; try (with_reducible rfl)
          simp only [Act.put, List.setIfInBounds_toArray, List.set_cons_zero, List.set_cons_succ]
          refine anyL_take (i := 33) (v := ?v33_39) (atS (atS (atS (atS (atS (atS (atS (atS (atS (atS (atS (atS (atS (atS (atS (atS (atS (atS (atS (atS (atS (atS (atS (atS (atS (atS (atS (atS (atS (atS (atS (atS (atS at0))))))))))))))))))))))))))))))))) (by kernel_rfl) (by kernel_rfl) (by kernel_rfl) (by kernel_rfl) (fun _ _ _ h => h) rfl ?y33_39 HS6 ?r33_39
          case y33_39 => intro wx hx; obtain ⟨h1, h2, h3, h4⟩ := hx; go_simp; try (with_reducible rfl)
          simp only [Act.put, List.setIfInBounds_toArray, List.set_cons_zero, List.set_cons_succ]
          refine anyL_one (i := 34) (atS (atS (atS (atS (atS (atS (atS (atS (atS (atS (atS (atS (atS (atS (atS (atS (atS (atS (atS (atS (atS (atS (atS (atS (atS (atS (atS (atS (atS (atS (atS (atS (atS (atS at0)))))))))))))))))))))))))))))))))) (by kernel_rfl) rfl (fun K hK => ?_)
          go_simp
          refine hK _ _ (.inr HS6) (anyL_done (by kernel_rfl) (NoPanic.normal ?_))
          try simp only [Act.put, List.setIfInBounds_toArray, List.set_cons_zero, List.set_cons_succ]
          clear HS6 HS5 HS4 HS3 HSD HS0
          go_wp2
          go_roundw
          case rel =>
            first
              | exact ⟨j + 1, by omega, by rw [HJ2.out], by omega⟩
              | exact ⟨j + 1, by omega, by rw [HJ2.out], by go_num, HX6, HB6⟩
          case measure => simp [intOf]; omega
        · have hnl : ¬ (j : Int) < (L : Int) := by omega
          obtain rfl : j = L := by omega
          go_wp2
          go_roundw
          case rel => exact ⟨k + 1, by omega, by rw [HTE.out], by go_num, hbx, hb⟩
          case measure => simp [intOf]; omega
    · have hnl : ¬ (k : Int) < (n : Int) := by omega
      obtain rfl : k = n := by omega
      go_wp2
      refine bodyPost_ret (v := .tuple #[.string (textS (textTk z l k)), .int .i64 0]) (by simp [results, Tryd.results9, go_sem]) rfl ⟨by rw [HTN.out], hb.out⟩
set_option maxRecDepth 100000 in
set_option maxHeartbeats 3200000 in
theorem shownR_okP (z : Int) (l : List St) (vs : Value) (w : World) (h : Mach w (.agg #[.int .i64 z, vs]) (z, l)) (hok : okM (z, l)) (hr : faultM (z, l) = 0) (hz0 : 0 ≤ z) :
    Calls Tryd.prog 9 #[.agg #[.int .i64 z, vs]] w fun e w' => e = .returned (.tuple #[.string (textS (textM (z, l))), .int .i64 0]) ∧ Below w.heap.size w w' := by
  have HM : Hid (Mach w (.agg #[.int .i64 z, vs]) (z, l)) := h
  have HK : Hid (okM (z, l)) := hok
  have HR : Hid (faultM (z, l) = 0) := hr
  have hz := (faultM_zero hr).2
  simp only [rangeB, Bool.and_eq_true, inB, decide_eq_true_eq] at hz
  have hz1 : -1 ≤ z := hz.1.1
  have h60 := (right_size hr).1
  have hz2 : z ≤ 60 := by omega
  obtain ⟨vs', hvs, hS⟩ := h
  simp only [Value.agg.injEq, Array.mk.injEq, List.cons.injEq, and_true, true_and] at hvs
  subst hvs
  obtain ⟨a, cap, rfl, hc⟩ := hS.get
  have HC : Hid (∀ j, j < l.length → ∃ b off va, a = some ⟨b, off, none⟩ ∧ b < w.heap.size ∧ w.cell? ⟨b, off + j * 2, none⟩ = some (.int .i64 (el l j).1) ∧ w.cell? ⟨b, off + j * 2 + 1, none⟩ = some va ∧ Arcs w va (el l j).2) := hc
  have HST : Hid (∀ j, j < l.length → finB (el l j).1 = true ∧ (el l j).2.all (arcB l.length) = true ∧ (el l j).2.length ≤ 400) := fun j hj => ⟨(right_st hr hj).1, (right_st hr hj).2, by
    have h1 := arcN_take hj
    have h2 : arcN (l.take (j + 1)) ≤ arcN l := by
      conv => rhs; rw [← List.take_append_drop (j + 1) l, arcN_append]
      omega
    have h3 := (right_size hr).2
    omega⟩
  have hts := textM_short hr
  have HTA : Hid (∀ k j, k < l.length → (textTa z l k j).length ≤ 20000) := fun k j hk => Nat.le_trans (textTa_le hk) hts
  have HTK : Hid (∀ k, k < l.length → (textTk z l k).length ≤ 20000) := fun k hk => Nat.le_trans (textTk_le hk) hts
  have HTN : Hid (textTk z l l.length = textM (z, l)) := textTk_all z l
  have HTS : Hid (∀ k, k < l.length → textTk z l (k + 1) = textTa z l k (el l k).2.length) := fun k hk => textTk_succ hk
  have HD1 : Hid (∀ W : World, 0 ≤ z → Calls Tryd.prog 20 #[.int .i64 z] W fun e w' => e = .returned (.string (textS (decT z))) ∧ Below W.heap.size W w') := fun W h0 => dec_t z W h0 (by omega)
  have HZ0 : Hid (z < 0 → textTk z l 0 = [115, 116, 97, 114, 116, 32, 45, 10]) := fun h0 => by
    show headT z ++ _ = _
    rw [headT_eq, startT, if_pos h0]; simp
  have HZ1 : Hid (0 ≤ z → (⟨#[115, 116, 97, 114, 116, 32]⟩ : ByteArray) ++ textS (decT z) ++ ⟨#[10]⟩ = textS (textTk z l 0)) := fun h0 => by
    show textS [115, 116, 97, 114, 116, 32] ++ textS (decT z) ++ textS [10] = textS (headT z ++ _)
    rw [headT_eq, startT, if_neg (by omega), textS_app, textS_app]; simp
  have hdz : (textS (decT z)).size ≤ 10 := dec_short (by omega)
  clear hS hc hr hz hok hts
  generalize hn : l.length = n at *
  have HN : Hid (l.length = n) := hn
  clear hn
  generalize textM (z, l) = TM at *
  generalize textS (decT z) = DZ at *
  go_enter Tryd.func9, Tryd.ntmps9
  go_wp2_with (first
    | (go_at_call 19; (with_reducible refine (fault_any _ (z, l) _ (HM.out.later (B := w.heap.size) (by go_grown) (Nat.le_refl _)) HK.out 0 HR.out).mono ?_); rintro e w1 ⟨rfl, hb⟩; obtain ⟨s1, b1, hb1⟩ := boxed hb (by simp); have HB1 : Hid (Below w.heap.size w w1) := hb1; have K1 : Hid (Blk w1 w.heap.size #[.int .i64 z, .slice a n cap] 24) := b1; have c0 := b1.cell 0 (v := .int .i64 z) rfl; clear b1 hb1 hb)
    | (go_at_call 20; (with_reducible refine (HD1.out _ (by omega)).mono ?_); rintro e w2 ⟨rfl, hb⟩; have HB2 : Hid (Below w.heap.size w w2) := HB1.out.trans (hb.mono HB1.out.size); have K2 : Hid (Blk w2 w.heap.size #[.int .i64 z, .slice a n cap] 24) := K1.out.below hb K1.out.lt; clear hb))
  go_loopw [5, 6] (fun s5 i wr => ∃ (k : Nat), k ≤ n ∧ s5 = .string (textS (textTk z l k)) ∧ i = .int .i64 k ∧ Hid (Blk wr w.heap.size #[.int .i64 z, .slice a n cap] 24) ∧ Hid (Below w.heap.size w wr)) (fun _ i _ => n - (intOf i).toNat)
  case atStart =>
    first
      | exact ⟨0, Nat.zero_le _, by rw [HZ0.out (by omega)]; rfl, rfl, K1, HB1⟩
      | exact ⟨0, Nat.zero_le _, by rw [HZ1.out (by omega)], rfl, K2, HB2⟩
  case round =>
    clear HZ0 HZ1 HD1 hdz
    obtain ⟨k, hk, rfl, rfl, hbx, hb⟩ := hrel
    have c1 := hbx.out.cell 1 (v := .slice a n cap) rfl
    by_cases hkn : k < n
    · obtain ⟨b, off, va, rfl, hbl, g0, g1, gA⟩ := HC.out k hkn
      obtain ⟨a2, cap2, hva, hga⟩ := gA.get
      subst hva
      have G1 : Hid (w.cell? ⟨b, off + k * 2 + 1, none⟩ = some (.slice a2 (el l k).2.length cap2)) := g1
      have g0 := (hb.out.cell (p := ⟨b, off + k * 2, none⟩) hbl).trans g0
      have HGA : Hid (∀ j, j < (el l k).2.length → ∃ b off, a2 = some ⟨b, off, none⟩ ∧ b < w.heap.size ∧ w.cell? ⟨b, off + j * 4, none⟩ = some (.int .i64 (el (el l k).2 j).1) ∧ w.cell? ⟨b, off + j * 4 + 1, none⟩ = some (.int .i64 (el (el l k).2 j).2.1) ∧ w.cell? ⟨b, off + j * 4 + 2, none⟩ = some (.int .i64 (el (el l k).2 j).2.2.1) ∧ w.cell? ⟨b, off + j * 4 + 3, none⟩ = some (.int .i64 (el (el l k).2 j).2.2.2)) := hga
      obtain ⟨hfin, harc, hL4⟩ := HST.out k hkn
      have HAR : Hid ((el l k).2.all (arcB n) = true) := harc
      have HWS : Hid (∀ W : World, Calls Tryd.prog 21 #[.int .i64 (el l k).1] W fun e w' => e = .returned (.tuple #[.string (textS (finT (el l k).1)), .int .i64 0]) ∧ Below W.heap.size W w') := fun W => by
        have h9 := weightShown_any (el l k).1 W
        rw [fin_show hfin] at h9
        exact h9
      have hfs : (textS (finT (el l k).1)).size ≤ 10 := fin_short hfin
      have hks : (textS (textTk z l k)).size ≤ 20000 := HTK.out k hkn
      have HT0 : Hid (textS (textTk z l k) ++ ⟨#[115, 116, 97, 116, 101, 32]⟩ ++ textS (finT (el l k).1) ++ ⟨#[10]⟩ = textS (textTa z l k 0)) := by
        show textS (textTk z l k) ++ textS [115, 116, 97, 116, 101, 32] ++ textS (finT (el l k).1) ++ textS [10] = _
        rw [textTa_zero, stT_eq, textS_app, textS_app, textS_app]; simp
      have HTJ : Hid (∀ j, j < (el l k).2.length → textTa z l k (j + 1) = textTa z l k j ++ arcT (el (el l k).2 j)) := fun j hj => textTa_succ hj
      have HTE : Hid (textTk z l (k + 1) = textTa z l k (el l k).2.length) := HTS.out k hkn
      have HTB : Hid (∀ j, (textTa z l k j).length ≤ 20000) := fun j => HTA.out k j hkn
      clear g1 gA hga harc hfin
      generalize textS (finT (el l k).1) = FT at *
      generalize (el l k).1 = fin at *
      generalize (el l k).2 = ar at *
      generalize textTa z l k = TA at *
      generalize hL : ar.length = L at *
      have HL : Hid (ar.length = L) := hL
      clear hL
      generalize textS (textTk z l k) = AC at *
      have hk0 : (0 : Int) ≤ (k : Int) := by omega
      have hk1 : (k : Int) < (n : Int) := by omega
      have n1 : ¬ 9223372036854775807 < AC.size + 6 := by omega
      have n2 : ¬ 9223372036854775807 < AC.size + 6 + FT.size := by omega
      have n3 : ¬ 9223372036854775807 < AC.size + 6 + FT.size + 1 := by omega
      go_wp2_with (first
        | (go_at_call 21; (with_reducible refine (HWS.out _).mono ?_); rintro e w3 ⟨rfl, hb3⟩; have HB3 : Hid (Below w.heap.size w w3) := hb.out.trans (hb3.mono hb.out.size); have K3 : Hid (Blk w3 w.heap.size #[.int .i64 z, .slice (some ⟨b, off, none⟩) n cap] 24) := hbx.out.below hb3 hbx.out.lt; have c3 := K3.out.cell 1 (v := .slice (some ⟨b, off, none⟩) n cap) rfl; have g3 := (HB3.out.cell (p := ⟨b, off + k * 2 + 1, none⟩) hbl).trans G1.out; clear hb3))
      go_loopw [5, 10] (fun s5 i wr => ∃ (j : Nat), j ≤ L ∧ s5 = .string (textS (TA j)) ∧ i = .int .i64 j ∧ Hid (Blk wr w.heap.size #[.int .i64 z, .slice (some ⟨b, off, none⟩) n cap] 24) ∧ Hid (Below w.heap.size w wr)) (fun _ i _ => L - (intOf i).toNat)
      case atStart => exact ⟨0, Nat.zero_le _, by rw [HT0.out], rfl, K3, HB3⟩
      case round =>
        clear HT0 HWS K3 HB3 c3 g3 c1 g0 hbx hb
        obtain ⟨j, hj, rfl, rfl, hbx, hb⟩ := hrel
        by_cases hjL : j < L
        · obtain ⟨b3, off3, rfl, hb3l, e0, e1, e2, e3⟩ := HGA.out j hjL
          have hcar := List.all_eq_true.1 HAR.out (el ar j) (el_mem (by rw [HL.out]; exact hjL))
          have hcb := hcar
          simp only [arcB, inB, Bool.and_eq_true, decide_eq_true_eq] at hcb
          have HJ := HTJ.out j hjL
          rw [arcT_eq] at HJ
          have hjs : (textS (TA j)).size ≤ 20000 := HTB.out j
          generalize el ar j = c at *
          generalize hx0 : c.1 = x0 at *
          generalize hx1 : c.2.1 = x1 at *
          generalize hx2 : c.2.2.1 = x2 at *
          generalize hx3 : c.2.2.2 = x3 at *
          have hr0 : 0 ≤ x0 ∧ x0 ≤ 1000000000 := by omega
          have hr1 : 0 ≤ x1 ∧ x1 ≤ 1000000000 := by omega
          have hr2 : 0 ≤ x2 ∧ x2 ≤ 1000000000 := by omega
          have hr3 : 0 ≤ x3 ∧ x3 ≤ 1000000000 := by omega
          clear hx0 hx1 hx2 hx3 hcar hcb
          have E0 : Hid (∀ W : World, Calls Tryd.prog 20 #[.int .i64 x0] W fun e w' => e = .returned (.string (textS (decT x0))) ∧ Below W.heap.size W w') := fun W => dec_t x0 W hr0.1 (by omega)
          have E1 : Hid (∀ W : World, Calls Tryd.prog 20 #[.int .i64 x1] W fun e w' => e = .returned (.string (textS (decT x1))) ∧ Below W.heap.size W w') := fun W => dec_t x1 W hr1.1 (by omega)
          have E2 : Hid (∀ W : World, Calls Tryd.prog 20 #[.int .i64 x2] W fun e w' => e = .returned (.string (textS (decT x2))) ∧ Below W.heap.size W w') := fun W => dec_t x2 W hr2.1 (by omega)
          have E3 : Hid (∀ W : World, Calls Tryd.prog 20 #[.int .i64 x3] W fun e w' => e = .returned (.string (textS (decT x3))) ∧ Below W.heap.size W w') := fun W => dec_t x3 W hr3.1 (by omega)
          have l0 : (textS (decT x0)).size ≤ 10 := dec_short (by omega)
          have l1 : (textS (decT x1)).size ≤ 10 := dec_short (by omega)
          have l2 : (textS (decT x2)).size ≤ 10 := dec_short (by omega)
          have l3 : (textS (decT x3)).size ≤ 10 := dec_short (by omega)
          have HJ2 : Hid (textS (TA j) ++ ⟨#[97, 114, 99, 32]⟩ ++ textS (decT x3) ++ ⟨#[32]⟩ ++ textS (decT x0) ++ ⟨#[32]⟩ ++ textS (decT x1) ++ ⟨#[32]⟩ ++ textS (decT x2) ++ ⟨#[10]⟩ = textS (TA (j + 1))) := by
            show textS (TA j) ++ textS [97, 114, 99, 32] ++ textS (decT x3) ++ textS [32] ++ textS (decT x0) ++ textS [32] ++ textS (decT x1) ++ textS [32] ++ textS (decT x2) ++ textS [10] = _
            rw [HJ]
            simp only [textS_app, List.append_assoc]
          clear HJ
          generalize textS (decT x0) = D0 at *
          generalize textS (decT x1) = D1 at *
          generalize textS (decT x2) = D2 at *
          generalize textS (decT x3) = D3 at *
          generalize textS (TA j) = AC2 at *
          have hj0 : (0 : Int) ≤ (j : Int) := by omega
          have hj1 : (j : Int) < (L : Int) := by omega
          have HS0 : HeldQ b3 (off3 + j * 4) x0 x1 x2 x3 wr := ⟨(hb.out.cell (p := ⟨b3, off3 + j * 4, none⟩) hb3l).trans e0, (hb.out.cell (p := ⟨b3, off3 + j * 4 + 1, none⟩) hb3l).trans e1, (hb.out.cell (p := ⟨b3, off3 + j * 4 + 2, none⟩) hb3l).trans e2, (hb.out.cell (p := ⟨b3, off3 + j * 4 + 3, none⟩) hb3l).trans e3⟩
          clear e0 e1 e2 e3
          have m1 : ¬ 9223372036854775807 < AC2.size + 4 := by omega
          have m2 : ¬ 9223372036854775807 < AC2.size + 4 + D3.size := by omega
          have m3 : ¬ 9223372036854775807 < AC2.size + 4 + D3.size + 1 := by omega
          have m4 : ¬ 9223372036854775807 < AC2.size + 4 + D3.size + 1 + D0.size := by omega
          have m5 : ¬ 9223372036854775807 < AC2.size + 4 + D3.size + 1 + D0.size + 1 := by omega
          have m6 : ¬ 9223372036854775807 < AC2.size + 4 + D3.size + 1 + D0.size + 1 + D1.size := by omega
          have m7 : ¬ 9223372036854775807 < AC2.size + 4 + D3.size + 1 + D0.size + 1 + D1.size + 1 := by omega
          have m8 : ¬ 9223372036854775807 < AC2.size + 4 + D3.size + 1 + D0.size + 1 + D1.size + 1 + D2.size := by omega
          have m9 : ¬ 9223372036854775807 < AC2.size + 4 + D3.size + 1 + D0.size + 1 + D1.size + 1 + D2.size + 1 := by omega
          go_wp2
          have HBD : Hid (Below w.heap.size w wr.drew) := hb.out.drew
          have HXD : Hid (Blk wr.drew w.heap.size #[.int .i64 z, .slice (some ⟨b, off, none⟩) n cap] 24) := hbx.out.drew
          have HSD : HeldQ b3 (off3 + j * 4) x0 x1 x2 x3 wr.drew := HS0
          refine region_anyL (HeldQ b3 (off3 + j * 4) x0 x1 x2 x3) 1000 (by kernel_rfl) ?_
          generalize wr.drew = W0 at *
          refine anyL_take (i := 0) (v := ?v0_40) at0 (by kernel_rfl) (by kernel_rfl) (by kernel_rfl) (by kernel_rfl) (fun _ _ _ h => h) rfl ?y0_40 HSD ?r0_40
          case y0_40 => intro wx hx; obtain ⟨h1, h2, h3, h4⟩ := hx; go_simp; try (with_reducible rfl)
          simp only [Act.put, List.setIfInBounds_toArray, List.set_cons_zero, List.set_cons_succ]
          refine anyL_take (i := 1) (v := ?v1_41) (atS at0) (by kernel_rfl) (by kernel_rfl) (by kernel_rfl) (by kernel_rfl) (fun _ _ _ h => h) rfl ?y1_41 HSD ?r1_41
          case y1_41 => intro wx hx; obtain ⟨h1, h2, h3, h4⟩ := hx; go_simp; try (with_reducible rfl)
          simp only [Act.put, List.setIfInBounds_toArray, List.set_cons_zero, List.set_cons_succ]
          refine anyL_take (i := 2) (v := ?v2_42) (atS (atS at0)) (by kernel_rfl) (by kernel_rfl) (by kernel_rfl) (by kernel_rfl) (fun _ _ _ h => h) rfl ?y2_42 HSD ?r2_42
          case y2_42 => intro wx hx; obtain ⟨h1, h2, h3, h4⟩ := hx; go_simp; try (with_reducible rfl)
          simp only [Act.put, List.setIfInBounds_toArray, List.set_cons_zero, List.set_cons_succ]
          refine anyL_take (i := 3) (v := ?v3_43) (atS (atS (atS at0))) (by kernel_rfl) (by kernel_rfl) (by kernel_rfl) (by kernel_rfl) (fun _ _ _ h => h) rfl ?y3_43 HSD ?r3_43
          case y3_43 => intro wx hx; obtain ⟨h1, h2, h3, h4⟩ := hx; go_simp; try (with_reducible rfl)
          simp only [Act.put, List.setIfInBounds_toArray, List.set_cons_zero, List.set_cons_succ]
          refine anyL_take (i := 4) (v := ?v4_44) (atS (atS (atS (atS at0)))) (by kernel_rfl) (by kernel_rfl) (by kernel_rfl) (by kernel_rfl) (fun _ _ _ h => h) rfl ?y4_44 HSD ?r4_44
          case y4_44 => intro wx hx; obtain ⟨h1, h2, h3, h4⟩ := hx; go_simp; try (with_reducible rfl)
          simp only [Act.put, List.setIfInBounds_toArray, List.set_cons_zero, List.set_cons_succ]
          refine anyL_take (i := 5) (v := ?v5_45) (atS (atS (atS (atS (atS at0))))) (by kernel_rfl) (by kernel_rfl) (by kernel_rfl) (by kernel_rfl) (fun _ _ _ h => h) rfl ?y5_45 HSD ?r5_45
          case y5_45 => intro wx hx; obtain ⟨h1, h2, h3, h4⟩ := hx; go_simp; try (with_reducible rfl)
          simp only [Act.put, List.setIfInBounds_toArray, List.set_cons_zero, List.set_cons_succ]
          refine anyL_take (i := 6) (v := ?v6_46) (atS (atS (atS (atS (atS (atS at0)))))) (by kernel_rfl) (by kernel_rfl) (by kernel_rfl) (by kernel_rfl) (fun _ _ _ h => h) rfl ?y6_46 HSD ?r6_46
          case y6_46 => intro wx hx; obtain ⟨h1, h2, h3, h4⟩ := hx; go_simp; try (with_reducible rfl)
          simp only [Act.put, List.setIfInBounds_toArray, List.set_cons_zero, List.set_cons_succ]
          refine anyL_take (i := 10) (v := ?v10_47) (atS (atS (atS (atS (atS (atS (atS (atS (atS (atS at0)))))))))) (by kernel_rfl) (by kernel_rfl) (by kernel_rfl) (by kernel_rfl) (fun _ _ _ h => h) rfl ?y10_47 HSD ?r10_47
          case y10_47 => intro wx hx; obtain ⟨h1, h2, h3, h4⟩ := hx; go_simp; try (with_reducible rfl)
          simp only [Act.put, List.setIfInBounds_toArray, List.set_cons_zero, List.set_cons_succ]
          refine anyL_take (i := 11) (v := ?v11_48) (atS (atS (atS (atS (atS (atS (atS (atS (atS (atS (atS at0))))))))))) (by kernel_rfl) (by kernel_rfl) (by kernel_rfl) (by kernel_rfl) (fun _ _ _ h => h) rfl ?y11_48 HSD ?r11_48
          case y11_48 => intro wx hx; obtain ⟨h1, h2, h3, h4⟩ := hx; go_simp; try (with_reducible rfl)
          simp only [Act.put, List.setIfInBounds_toArray, List.set_cons_zero, List.set_cons_succ]
          refine anyL_take (i := 12) (v := ?v12_49) (atS (atS (atS (atS (atS (atS (atS (atS (atS (atS (atS (atS at0)))))))))))) (by kernel_rfl) (by kernel_rfl) (by kernel_rfl) (by kernel_rfl) (fun _ _ _ h => h) rfl ?y12_49 HSD ?r12_49
          case y12_49 => intro wx hx; obtain ⟨h1, h2, h3, h4⟩ := hx; go_simp; try (with_reducible rfl)
          simp only [Act.put, List.setIfInBounds_toArray, List.set_cons_zero, List.set_cons_succ]
          refine anyL_take (i := 13) (v := ?v13_50) (atS (atS (atS (atS (atS (atS (atS (atS (atS (atS (atS (atS (atS at0))))))))))))) (by kernel_rfl) (by kernel_rfl) (by kernel_rfl) (by kernel_rfl) (fun _ _ _ h => h) rfl ?y13_50 HSD ?r13_50
          case y13_50 => intro wx hx; obtain ⟨h1, h2, h3, h4⟩ := hx; go_simp; try (with_reducible rfl)
          simp only [Act.put, List.setIfInBounds_toArray, List.set_cons_zero, List.set_cons_succ]
          refine anyL_take (i := 14) (v := ?v14_51) (atS (atS (atS (atS (atS (atS (atS (atS (atS (atS (atS (atS (atS (atS at0)))))))))))))) (by kernel_rfl) (by kernel_rfl) (by kernel_rfl) (by kernel_rfl) (fun _ _ _ h => h) rfl ?y14_51 HSD ?r14_51
          case y14_51 => intro wx hx; obtain ⟨h1, h2, h3, h4⟩ := hx; go_simp; try (with_reducible rfl)
          simp only [Act.put, List.setIfInBounds_toArray, List.set_cons_zero, List.set_cons_succ]
          refine anyL_take (i := 18) (v := ?v18_52) (atS (atS (atS (atS (atS (atS (atS (atS (atS (atS (atS (atS (atS (atS (atS (atS (atS (atS at0)))))))))))))))))) (by kernel_rfl) (by kernel_rfl) (by kernel_rfl) (by kernel_rfl) (fun _ _ _ h => h) rfl ?y18_52 HSD ?r18_52
          case y18_52 => intro wx hx; obtain ⟨h1, h2, h3, h4⟩ := hx; go_simp; try (with_reducible rfl)
          simp only [Act.put, List.setIfInBounds_toArray, List.set_cons_zero, List.set_cons_succ]
          refine anyL_take (i := 19) (v := ?v19_53) (atS (atS (atS (atS (atS (atS (atS (atS (atS (atS (atS (atS (atS (atS (atS (atS (atS (atS (atS at0))))))))))))))))))) (by kernel_rfl) (by kernel_rfl) (by kernel_rfl) (by kernel_rfl) (fun _ _ _ h => h) rfl ?y19_53 HSD ?r19_53
          case y19_53 => intro wx hx; obtain ⟨h1, h2, h3, h4⟩ := hx; go_simp; try (with_reducible rfl)
          simp only [Act.put, List.setIfInBounds_toArray, List.set_cons_zero, List.set_cons_succ]
          refine anyL_take (i := 20) (v := ?v20_54) (atS (atS (atS (atS (atS (atS (atS (atS (atS (atS (atS (atS (atS (atS (atS (atS (atS (atS (atS (atS at0)))))))))))))))))))) (by kernel_rfl) (by kernel_rfl) (by kernel_rfl) (by kernel_rfl) (fun _ _ _ h => h) rfl ?y20_54 HSD ?r20_54
          case y20_54 => intro wx hx; obtain ⟨h1, h2, h3, h4⟩ := hx; go_simp; try (with_reducible rfl)
          simp only [Act.put, List.setIfInBounds_toArray, List.set_cons_zero, List.set_cons_succ]
          refine anyL_take (i := 21) (v := ?v21_55) (atS (atS (atS (atS (atS (atS (atS (atS (atS (atS (atS (atS (atS (atS (atS (atS (atS (atS (atS (atS (atS at0))))))))))))))))))))) (by kernel_rfl) (by kernel_rfl) (by kernel_rfl) (by kernel_rfl) (fun _ _ _ h => h) rfl ?y21_55 HSD ?r21_55
          case y21_55 => intro wx hx; obtain ⟨h1, h2, h3, h4⟩ := hx; go_simp; try (with_reducible rfl)
          simp only [Act.put, List.setIfInBounds_toArray, List.set_cons_zero, List.set_cons_succ]
          refine anyL_take (i := 22) (v := ?v22_56) (atS (atS (atS (atS (atS (atS (atS (atS (atS (atS (atS (atS (atS (atS (atS (atS (atS (atS (atS (atS (atS (atS at0)))))))))))))))))))))) (by kernel_rfl) (by kernel_rfl) (by kernel_rfl) (by kernel_rfl) (fun _ _ _ h => h) rfl ?y22_56 HSD ?r22_56
          case y22_56 => intro wx hx; obtain ⟨h1, h2, h3, h4⟩ := hx; go_simp; try (with_reducible rfl)
          simp only [Act.put, List.setIfInBounds_toArray, List.set_cons_zero, List.set_cons_succ]
          refine anyL_take (i := 26) (v := ?v26_57) (atS (atS (atS (atS (atS (atS (atS (atS (atS (atS (atS (atS (atS (atS (atS (atS (atS (atS (atS (atS (atS (atS (atS (atS (atS (atS at0)))))))))))))))))))))))))) (by kernel_rfl) (by kernel_rfl) (by kernel_rfl) (by kernel_rfl) (fun _ _ _ h => h) rfl ?y26_57 HSD ?r26_57
          case y26_57 => intro wx hx; obtain ⟨h1, h2, h3, h4⟩ := hx; go_simp; try (with_reducible rfl)
          simp only [Act.put, List.setIfInBounds_toArray, List.set_cons_zero, List.set_cons_succ]
          refine anyL_take (i := 27) (v := ?v27_58) (atS (atS (atS (atS (atS (atS (atS (atS (atS (atS (atS (atS (atS (atS (atS (atS (atS (atS (atS (atS (atS (atS (atS (atS (atS (atS (atS at0))))))))))))))))))))))))))) (by kernel_rfl) (by kernel_rfl) (by kernel_rfl) (by kernel_rfl) (fun _ _ _ h => h) rfl ?y27_58 HSD ?r27_58
          case y27_58 => intro wx hx; obtain ⟨h1, h2, h3, h4⟩ := hx; go_simp; try (with_reducible rfl)
          simp only [Act.put, List.setIfInBounds_toArray, List.set_cons_zero, List.set_cons_succ]
          refine anyL_take (i := 28) (v := ?v28_59) (atS (atS (atS (atS (atS (atS (atS (atS (atS (atS (atS (atS (atS (atS (atS (atS (atS (atS (atS (atS (atS (atS (atS (atS (atS (atS (atS (atS at0)))))))))))))))))))))))))))) (by kernel_rfl) (by kernel_rfl) (by kernel_rfl) (by kernel_rfl) (fun _ _ _ h => h) rfl ?y28_59 HSD ?r28_59
          case y28_59 => intro wx hx; obtain ⟨h1, h2, h3, h4⟩ := hx; go_simp; try (with_reducible rfl)
          simp only [Act.put, List.setIfInBounds_toArray, List.set_cons_zero, List.set_cons_succ]
          refine anyL_take (i := 29) (v := ?v29_60) (atS (atS (atS (atS (atS (atS (atS (atS (atS (atS (atS (atS (atS (atS (atS (atS (atS (atS (atS (atS (atS (atS (atS (atS (atS (atS (atS (atS (atS at0))))))))))))))))))))))))))))) (by kernel_rfl) (by kernel_rfl) (by kernel_rfl) (by kernel_rfl) (fun _ _ _ h => h) rfl ?y29_60 HSD ?r29_60
          case y29_60 => intro wx hx; obtain ⟨h1, h2, h3, h4⟩ := hx; go_simp; try (with_reducible rfl)
          simp only [Act.put, List.setIfInBounds_toArray, List.set_cons_zero, List.set_cons_succ]
          refine anyL_take (i := 30) (v := ?v30_61) (atS (atS (atS (atS (atS (atS (atS (atS (atS (atS (atS (atS (atS (atS (atS (atS (atS (atS (atS (atS (atS (atS (atS (atS (atS (atS (atS (atS (atS (atS at0)))))))))))))))))))))))))))))) (by kernel_rfl) (by kernel_rfl) (by kernel_rfl) (by kernel_rfl) (fun _ _ _ h => h) rfl ?y30_61 HSD ?r30_61
          case y30_61 => intro wx hx; obtain ⟨h1, h2, h3, h4⟩ := hx; go_simp; try (with_reducible rfl)
          simp only [Act.put, List.setIfInBounds_toArray, List.set_cons_zero, List.set_cons_succ]
          refine anyL_one (i := 7) (atS (atS (atS (atS (atS (atS (atS at0))))))) (by kernel_rfl) rfl (fun K hK => ?_)
          go_simp
          refine (E3.out _).mono ?_
          rintro e w3 ⟨rfl, hbc⟩
          have HS3 : HeldQ b3 (off3 + j * 4) x0 x1 x2 x3 w3 := HSD.later hbc (Nat.lt_of_lt_of_le hb3l HBD.out.size)
          have HB3 : Hid (Below w.heap.size w w3) := HBD.out.trans (hbc.mono HBD.out.size)
          have HX3 : Hid (Blk w3 w.heap.size #[.int .i64 z, .slice (some ⟨b, off, none⟩) n cap] 24) := HXD.out.below hbc HXD.out.lt
          refine hK _ _ (.inr HS3) ?_
          try simp only [Act.put, List.setIfInBounds_toArray, List.set_cons_zero, List.set_cons_succ]
          clear hbc
          refine anyL_take (i := 8) (v := ?v8_62) (atS (atS (atS (atS (atS (atS (atS (atS at0)))))))) (by kernel_rfl) (by kernel_rfl) (by kernel_rfl) (by kernel_rfl) (fun _ _ _ h => h) rfl ?y8_62 HS3 ?r8_62
          case y8_62 => intro wx hx; obtain ⟨h1, h2, h3, h4⟩ := hx; go_simp; try (with_reducible rfl)
          simp only [Act.put, List.setIfInBounds_toArray, List.set_cons_zero, List.set_cons_succ]
          refine anyL_take (i := 9) (v := ?v9_63) (atS (atS (atS (atS (atS (atS (atS (atS (atS at0))))))))) (by kernel_rfl) (by kernel_rfl) (by kernel_rfl) (by kernel_rfl) (fun _ _ _ h => h) rfl ?y9_63 HS3 ?r9_63
          case y9_63 => intro wx hx; obtain ⟨h1, h2, h3, h4⟩ := hx; go_simp; try (with_reducible rfl)
          simp only [Act.put, List.setIfInBounds_toArray, List.set_cons_zero, List.set_cons_succ]
          refine anyL_one (i := 15) (atS (atS (atS (atS (atS (atS (atS (atS (atS (atS (atS (atS (atS (atS (atS at0))))))))))))))) (by kernel_rfl) rfl (fun K hK => ?_)
          go_simp
          refine (E0.out _).mono ?_
          rintro e w4 ⟨rfl, hbc⟩
          have HS4 : HeldQ b3 (off3 + j * 4) x0 x1 x2 x3 w4 := HS3.later hbc (Nat.lt_of_lt_of_le hb3l HB3.out.size)
          have HB4 : Hid (Below w.heap.size w w4) := HB3.out.trans (hbc.mono HB3.out.size)
          have HX4 : Hid (Blk w4 w.heap.size #[.int .i64 z, .slice (some ⟨b, off, none⟩) n cap] 24) := HX3.out.below hbc HX3.out.lt
          refine hK _ _ (.inr HS4) ?_
          try simp only [Act.put, List.setIfInBounds_toArray, List.set_cons_zero, List.set_cons_succ]
          clear hbc
          refine anyL_take (i := 16) (v := ?v16_64) (atS (atS (atS (atS (atS (atS (atS (atS (atS (atS (atS (atS (atS (atS (atS (atS at0)))))))))))))))) (by kernel_rfl) (by kernel_rfl) (by kernel_rfl) (by kernel_rfl) (fun _ _ _ h => h) rfl ?y16_64 HS4 ?r16_64
          case y16_64 => intro wx hx; obtain ⟨h1, h2, h3, h4⟩ := hx; go_simp; try (with_reducible rfl)
          simp only [Act.put, List.setIfInBounds_toArray, List.set_cons_zero, List.set_cons_succ]
          refine anyL_take (i := 17) (v := ?v17_65) (atS (atS (atS (atS (atS (atS (atS (atS (atS (atS (atS (atS (atS (atS (atS (atS (atS at0))))))))))))))))) (by kernel_rfl) (by kernel_rfl) (by kernel_rfl) (by kernel_rfl) (fun _ _ _ h => h) rfl ?y17_65 HS4 ?r17_65
          case y17_65 => intro wx hx; obtain ⟨h1, h2, h3, h4⟩ := hx; go_simp; try (with_reducible rfl)
          simp only [Act.put, List.setIfInBounds_toArray, List.set_cons_zero, List.set_cons_succ]
          refine anyL_one (i := 23) (atS (atS (atS (atS (atS (atS (atS (atS (atS (atS (atS (atS (atS (atS (atS (atS (atS (atS (atS (atS (atS (atS (atS at0))))))))))))))))))))))) (by kernel_rfl) rfl (fun K hK => ?_)
          go_simp
          refine (E1.out _).mono ?_
          rintro e w5 ⟨rfl, hbc⟩
          have HS5 : HeldQ b3 (off3 + j * 4) x0 x1 x2 x3 w5 := HS4.later hbc (Nat.lt_of_lt_of_le hb3l HB4.out.size)
          have HB5 : Hid (Below w.heap.size w w5) := HB4.out.trans (hbc.mono HB4.out.size)
          have HX5 : Hid (Blk w5 w.heap.size #[.int .i64 z, .slice (some ⟨b, off, none⟩) n cap] 24) := HX4.out.below hbc HX4.out.lt
          refine hK _ _ (.inr HS5) ?_
          try simp only [Act.put, List.setIfInBounds_toArray, List.set_cons_zero, List.set_cons_succ]
          clear hbc
          refine anyL_take (i := 24) (v := ?v24_66) (atS (atS (atS (atS (atS (atS (atS (atS (atS (atS (atS (atS (atS (atS (atS (atS (atS (atS (atS (atS (atS (atS (atS (atS at0)))))))))))))))))))))))) (by kernel_rfl) (by kernel_rfl) (by kernel_rfl) (by kernel_rfl) (fun _ _ _ h => h) rfl ?y24_66 HS5 ?r24_66
          case y24_66 => intro wx hx; obtain ⟨h1, h2, h3, h4⟩ := hx; go_simp; try (with_reducible rfl)
          simp only [Act.put, List.setIfInBounds_toArray, List.set_cons_zero, List.set_cons_succ]
          refine anyL_take (i := 25) (v := ?v25_67) (atS (atS (atS (atS (atS (atS (atS (atS (atS (atS (atS (atS (atS (atS (atS (atS (atS (atS (atS (atS (atS (atS (atS (atS (atS at0))))))))))))))))))))))))) (by kernel_rfl) (by kernel_rfl) (by kernel_rfl) (by kernel_rfl) (fun _ _ _ h => h) rfl ?y25_67 HS5 ?r25_67
          case y25_67 => intro wx hx; obtain ⟨h1, h2, h3, h4⟩ := hx; go_simp; try (with_reducible rfl)
          simp only [Act.put, List.setIfInBounds_toArray, List.set_cons_zero, List.set_cons_succ]
          refine anyL_one (i := 31) (atS (atS (atS (atS (atS (atS (atS (atS (atS (atS (atS (atS (atS (atS (atS (atS (atS (atS (atS (atS (atS (atS (atS (atS (atS (atS (atS (atS (atS (atS (atS at0))))))))))))))))))))))))))))))) (by kernel_rfl) rfl (fun K hK => ?_)
          go_simp
          refine (E2.out _).mono ?_
          rintro e w6 ⟨rfl, hbc⟩
          have HS6 : HeldQ b3 (off3 + j * 4) x0 x1 x2 x3 w6 := HS5.later hbc (Nat.lt_of_lt_of_le hb3l HB5.out.size)
          have HB6 : Hid (Below w.heap.size w w6) := HB5.out.trans (hbc.mono HB5.out.size)
          have HX6 : Hid (Blk w6 w.heap.size #[.int .i64 z, .slice (some ⟨b, off, none⟩) n cap] 24) := HX5.out.below hbc HX5.out.lt
          refine hK _ _ (.inr HS6) ?_
          try simp only [Act.put, List.setIfInBounds_toArray, List.set_cons_zero, List.set_cons_succ]
          clear hbc
          refine anyL_take (i := 32) (v := ?v32_68) (atS (atS (atS (atS (atS (atS (atS (atS (atS (atS (atS (atS (atS (atS (atS (atS (atS (atS (atS (atS (atS (atS (atS (atS (atS (atS (atS (atS (atS (atS (atS (atS at0)))))))))))))))))))))))))))))))) (by kernel_rfl) (by kernel_rfl) (by kernel_rfl) (by kernel_rfl) (fun _ _ _ h => h) rfl ?y32_68 HS6 ?r32_68
          case y32_68 => intro wx hx; obtain ⟨h1, h2, h3, h4⟩ := hx; go_simp; try (with_reducible rfl)
          simp only [Act.put, List.setIfInBounds_toArray, List.set_cons_zero, List.set_cons_succ]
          refine anyL_take (i := 33) (v := ?v33_69) (atS (atS (atS (atS (atS (atS (atS (atS (atS (atS (atS (atS (atS (atS (atS (atS (atS (atS (atS (atS (atS (atS (atS (atS (atS (atS (atS (atS (atS (atS (atS (atS (atS at0))))))))))))))))))))))))))))))))) (by kernel_rfl) (by kernel_rfl) (by kernel_rfl) (by kernel_rfl) (fun _ _ _ h => h) rfl ?y33_69 HS6 ?r33_69
          case y33_69 => intro wx hx; obtain ⟨h1, h2, h3, h4⟩ := hx; go_simp; try (with_reducible rfl)
          simp only [Act.put, List.setIfInBounds_toArray, List.set_cons_zero, List.set_cons_succ]
          refine anyL_one (i := 34) (atS (atS (atS (atS (atS (atS (atS (atS (atS (atS (atS (atS (atS (atS (atS (atS (atS (atS (atS (atS (atS (atS (atS (atS (atS (atS (atS (atS (atS (atS (atS (atS (atS (atS at0)))))))))))))))))))))))))))))))))) (by kernel_rfl) rfl (fun K hK => ?_)
          go_simp
          refine hK _ _ (.inr HS6) (anyL_done (by kernel_rfl) (NoPanic.normal ?_))
          try simp only [Act.put, List.setIfInBounds_toArray, List.set_cons_zero, List.set_cons_succ]
          clear HS6 HS5 HS4 HS3 HSD HS0
          go_wp2
          go_roundw
          case rel =>
            first
              | exact ⟨j + 1, by omega, by rw [HJ2.out], by omega⟩
              | exact ⟨j + 1, by omega, by rw [HJ2.out], by go_num, HX6, HB6⟩
          case measure => simp [intOf]; omega
        · have hnl : ¬ (j : Int) < (L : Int) := by omega
          obtain rfl : j = L := by omega
          go_wp2
          go_roundw
          case rel => exact ⟨k + 1, by omega, by rw [HTE.out], by go_num, hbx, hb⟩
          case measure => simp [intOf]; omega
    · have hnl : ¬ (k : Int) < (n : Int) := by omega
      obtain rfl : k = n := by omega
      go_wp2
      refine bodyPost_ret (v := .tuple #[.string (textS (textTk z l k)), .int .i64 0]) (by simp [results, Tryd.results9, go_sem]) rfl ⟨by rw [HTN.out], hb.out⟩
theorem shownR_ok (z : Int) (l : List St) (vs : Value) (w : World) (h : Mach w (.agg #[.int .i64 z, vs]) (z, l)) (hok : okM (z, l)) (hr : faultM (z, l) = 0) :
    Calls Tryd.prog 9 #[.agg #[.int .i64 z, vs]] w fun e w' => e = .returned (.tuple #[.string (textS (textM (z, l))), .int .i64 0]) ∧ Below w.heap.size w w' := by
  by_cases hz0 : z < 0
  · exact shownR_okN z l vs w h hok hr hz0
  · exact shownR_okP z l vs w h hok hr (by omega)
end Go.Proofs.YthaefajpdncoeaaDoor.Wt
namespace Go.Proofs.YthaefajpdncoeaaDoor.Pl
/-- What is shown of a machine whose fault is r. -/
def shownT (m : Mc) (r : Int) : List UInt8 := if r = 0 then textM m else []
end Go.Proofs.YthaefajpdncoeaaDoor.Pl
namespace Go.Proofs.YthaefajpdncoeaaDoor.Wt
open Go.ChangeShapes Go.WideShapes Go.ChangeAt Go.RowKit
open Go.Proofs.YthaefajpdncoeaaDoor.Pl
set_option linter.unusedVariables false
set_option linter.unusedSimpArgs false
set_option maxRecDepth 100000 in
theorem shownR_any (v : Value) (m : Mc) (w : World) (h : Mach w v m) (hok : okM m) (r : Int) (hr : faultM m = r) :
    Calls Tryd.prog 9 #[v] w fun e w' => e = .returned (.tuple #[.string (textS (shownT m r)), .int .i64 r]) ∧ Below w.heap.size w w' := by
  obtain ⟨z, l⟩ := m
  by_cases h0 : r = 0
  · subst h0
    unfold shownT
    rw [if_pos rfl]
    obtain ⟨vs, rfl, hS⟩ := h
    exact shownR_ok z l vs w ⟨vs, rfl, hS⟩ hok hr
  · have HM : Hid (Mach w v (z, l)) := h
    have HK : Hid (okM (z, l)) := hok
    have HR : Hid (faultM (z, l) = r) := hr
    have HT : Hid (textS (shownT (z, l) r) = ⟨#[]⟩) := by show _ = _; unfold shownT; rw [if_neg h0]; rfl
    have h0' : (r != 0) = true := bne_iff_ne.2 h0
    obtain ⟨vs, rfl, hS⟩ := h
    obtain ⟨a, cap, rfl⟩ := hS.sl
    clear hS hok hr
    generalize textS (shownT (z, l) r) = T at *
    go_enter Tryd.func9, Tryd.ntmps9
    go_wp2_with (first
      | (go_at_call 19; (with_reducible refine (fault_any _ (z, l) _ (HM.out.later (B := w.heap.size) (by go_grown) (Nat.le_refl _)) HK.out r HR.out).mono ?_); rintro e w1 ⟨rfl, hb⟩; obtain ⟨s1, b1, hb1⟩ := boxed hb (by simp); have HB1 : Hid (Below w.heap.size w w1) := hb1; clear b1 hb1 hb))
    exact bodyPost_ret (v := .tuple #[.string ⟨#[]⟩, .int .i64 r]) (by simp [results, Tryd.results9, go_sem]) rfl ⟨by rw [HT.out], HB1.out⟩
end Go.Proofs.YthaefajpdncoeaaDoor.Wt
