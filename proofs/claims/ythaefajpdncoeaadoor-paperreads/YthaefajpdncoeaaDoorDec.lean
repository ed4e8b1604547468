/- What the reference's Dec answers: the decimal digits of a number that is not below nought. -/
import Derived.Test.YthaefajpdncoeaaDoorRows
import Derived.Test.YthaefajpdncoeaaDoorPlain
import Derived.ProofKit
import Derived.OpenShut
import Derived.WalkLawsBesides
import Derived.WalkSpells
import Derived.Lib.ItoaNum
import Derived.Lib.ItoaLen
import Derived.Laws.BytesString
import Derived.Laws.Cells
import Derived.Deep.RegionWith
namespace Go.Proofs.YthaefajpdncoeaaDoor.Wt
open Go.ChangeShapes Go.WideShapes Go.ChangeAt Go.RowKit
open Go.Proofs.YthaefajpdncoeaaDoor.Pl
set_option linter.unusedVariables false

theorem ret_str {a b : ByteArray} (h : a = b) : Ending.returned (.string a) = .returned (.string b) := by rw [h]
theorem wrap_id {n : Int} (h0 : -9223372036854775808 ≤ n) (h1 : n ≤ 9223372036854775807) : IntKind.i64.wrap n = n := by
  have h64 : IntKind.i64.wrap n = if n % 18446744073709551616 ≥ 9223372036854775808 then n % 18446744073709551616 - 18446744073709551616 else n % 18446744073709551616 := by
    simp [IntKind.wrap, IntKind.bits, IntKind.signed]
  rw [h64]
  split <;> omega
theorem str_snoc (d : List UInt8) (c : UInt8) : ByteArray.mk d.toArray ++ ByteArray.mk #[c] = ByteArray.mk (d ++ [c]).toArray := by
  apply bytes_inj
  simp
/-- A slice of one byte, as a text. -/
theorem conv1 (W : World) (b : Nat) (c : Int) (cap : Nat) (h : W.cell? ⟨b, 0, none⟩ = some (.int .u8 c)) :
    (convert 39 9 (.slice (some ⟨b, 0, none⟩) 1 cap)).run Tryd.prog W = .ok (.string ⟨#[UInt8.ofNat c.toNat]⟩) W := by
  rw [run_convert_bytes_string W _ _ 5 _ _ _ Tryd.underlying39 Tryd.underlying5 Tryd.underlying9]
  rw [run_bytesToString W ⟨b, 0, none⟩ 1 cap [c] (by
    have := run_loadCells_list (P := Tryd.prog) W ⟨b, 0, none⟩ [Value.int .u8 c] (fun j v hj => by
      match j, hj with
      | 0, hj => simp at hj; subst hj; rw [Addr.add_lit]; exact h)
    simpa using this)]
  rfl

theorem bcell {W w1 : World} (hb : Below W.heap.size W w1) : (∀ b o, b < W.heap.size → w1.cell? ⟨b, o, none⟩ = W.cell? ⟨b, o, none⟩) ∧ (∀ b o, b < W.heap.size → w1.frozen? ⟨b, o, none⟩ = W.frozen? ⟨b, o, none⟩) :=
  ⟨fun b o h => hb.cell (p := ⟨b, o, none⟩) h, fun b o h => hb.frozen (p := ⟨b, o, none⟩) h⟩

theorem dec_small (n : Int) (w : World) (h0 : 0 ≤ n) (h1 : n < 10) :
    Calls Tryd.prog 20 #[.int .i64 n] w fun e w' => e = .returned (.string ⟨(Lib.decDigits n.toNat).toArray⟩) ∧ Below w.heap.size w w' := by
  have HD : Hid (Lib.decDigits n.toNat = [UInt8.ofNat (48 + n.toNat)]) := Lib.decDigits_one (by omega)
  have kc := conv1
  go_enter Tryd.func20, Tryd.ntmps20
  go_wp2
  go_ret
  exact ⟨ret_str (by rw [HD.out, show (48 + n).toNat = 48 + n.toNat from by omega]), (Below.refl _ _).alloc (Nat.le_refl _) _⟩

theorem dec_big (n : Int) (d : List UInt8) (w : World) (h0 : 10 ≤ n) (h1 : n ≤ 9223372036854775807) (hd : d.length ≤ 100)
    (ih : ∀ w : World, Calls Tryd.prog 20 #[.int .i64 (n / 10)] w fun e w' => e = .returned (.string ⟨d.toArray⟩) ∧ Below w.heap.size w w') :
    Calls Tryd.prog 20 #[.int .i64 n] w fun e w' => e = .returned (.string ⟨(d ++ [UInt8.ofNat (48 + n % 10).toNat]).toArray⟩) ∧ Below w.heap.size w w' := by
  have kc := conv1
  have IH : Hid (∀ w : World, Calls Tryd.prog 20 #[.int .i64 (n / 10)] w fun e w' => e = .returned (.string ⟨d.toArray⟩) ∧ Below w.heap.size w w') := ih
  clear ih
  have HQ : Hid (IntKind.i64.wrap (n.tdiv 10) = n / 10) := by
    show _ = _
    rw [Int.tdiv_eq_ediv_of_nonneg (by omega)]
    exact wrap_id (by omega) (by omega)
  have hs : (⟨d.toArray⟩ : ByteArray).size = d.length := rfl
  generalize hS : (⟨d.toArray⟩ : ByteArray) = S at *
  have HS : Hid ((⟨d.toArray⟩ : ByteArray) = S) := hS
  clear hS
  go_enter Tryd.func20, Tryd.ntmps20
  go_wp2_with fail
  go_region_with (go_at_call 20; rw [HQ.out]; refine (IH.out _).mono ?_; rintro e w1 ⟨rfl, hb1⟩; obtain ⟨hc1, hf1⟩ := bcell hb1)
  all_goals go_wp2
  all_goals go_ret
  · exact ⟨ret_str (by rw [← HS.out]; exact str_snoc _ _), ((Below.refl w.heap.size w).drew.trans hb1).alloc hb1.size _⟩
  · exact ⟨ret_str (by rw [← HS.out]; exact str_snoc _ _), (((Below.refl w.heap.size w).alloc (Nat.le_refl _) _).drew).trans (hb1.mono (by simp))⟩
  · exact ⟨ret_str (by rw [← HS.out]; exact str_snoc _ _), (((Below.refl w.heap.size w).alloc (Nat.le_refl _) _).drew).trans (hb1.mono (by simp))⟩

theorem dec_nat (u : Nat) : u ≤ 9223372036854775807 → ∀ w : World,
    Calls Tryd.prog 20 #[.int .i64 (u : Int)] w fun e w' => e = .returned (.string ⟨(Lib.decDigits u).toArray⟩) ∧ Below w.heap.size w w' := by
  induction u using Nat.strongRecOn with
  | _ u ih =>
    intro hu w
    by_cases h : u < 10
    · exact dec_small (u : Int) w (by omega) (by omega)
    · have e : Lib.decDigits u = Lib.decDigits (u / 10) ++ [UInt8.ofNat (48 + u % 10)] := by rw [Lib.decDigits, dif_neg h]
      have hl : (Lib.decDigits (u / 10)).length ≤ 100 := by
        have := Lib.nDigits_le20 (u / 10) (by omega)
        rw [Lib.decDigits_length]; omega
      have ih' := ih (u / 10) (by omega) (by omega)
      have := dec_big (u : Int) (Lib.decDigits (u / 10)) w (by omega) (by omega) hl (fun w => by
        have := ih' w
        rwa [show ((u / 10 : Nat) : Int) = (u : Int) / 10 from by omega] at this)
      rw [show (48 + (u : Int) % 10).toNat = 48 + u % 10 from by omega] at this
      rw [e]
      exact this
theorem dec_any (n : Int) (w : World) (h0 : 0 ≤ n) (h1 : n ≤ 9223372036854775807) (s : ByteArray) (hs : ByteArray.mk (Lib.itoa n).toArray = s) :
    Calls Tryd.prog 20 #[.int .i64 n] w fun e w' => e = .returned (.string s) ∧ Below w.heap.size w w' := by
  subst hs
  obtain ⟨u, rfl⟩ := Int.eq_ofNat_of_zero_le h0
  have : Lib.itoa (u : Int) = Lib.decDigits u := by unfold Lib.itoa; rw [if_neg (by omega)]; simp
  rw [this]
  exact dec_nat u (by omega) w
end Go.Proofs.YthaefajpdncoeaaDoor.Wt
