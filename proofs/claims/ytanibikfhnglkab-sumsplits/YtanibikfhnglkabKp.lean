/- What the small helpers of the keeping statements answer: a number brought into bounds, a weight made of a number, the lesser and the sum of two weights. -/
import Derived.Test.YtanibikfhnglkabWu
namespace Go.Proofs.Ytanibikfhnglkab.Wt
open Go.ChangeShapes Go.WideShapes Go.ChangeAt Go.RowKit
open Go.Proofs.Ytanibikfhnglkab.Pl
set_option linter.unusedVariables false

def pk (n many : Int) : Int := (if n < 0 then -(n + 1) else n) % many
def someI (n : Int) : Int := if 333333333 < pk n 333333335 then 1000000001 else pk n 333333335
theorem pk_bd (n many : Int) (h : 0 < many) : 0 ≤ pk n many ∧ pk n many < many := by
  unfold pk
  exact ⟨Int.emod_nonneg _ (by omega), Int.emod_lt_of_pos _ h⟩
theorem someI_up (n : Int) : someI n = 1000000001 ∨ 0 ≤ someI n ∧ someI n ≤ 333333333 := by
  have h := pk_bd n 333333335 (by omega)
  unfold someI
  split <;> omega

theorem picked_any (n many : Int) (w : World) (hn : (Lit.int .i64 n).wf = true) (hm : 0 < many) (hm2 : many ≤ 9223372036854775807) :
    Calls Try.prog 12 #[.int .i64 n, .int .i64 many] w fun e w' => e = .returned (.int .i64 (pk n many)) ∧ w = w' := by
  obtain ⟨b1, b2⟩ := bounds_i64 hn
  clear hn
  by_cases h : n < 0
  · have HP : Hid (pk n many = (-(n + 1)) % many) := by show _ = _; simp [pk, h]
    go_enter Try.func12, Try.ntmps12
    go_wp2
    go_ret
    exact ⟨ret_int (by rw [HP.out, ← Int.neg_tmod, Int.tmod_eq_emod_of_nonneg (by omega)]), rfl⟩
  · have HP : Hid (pk n many = n % many) := by show _ = _; simp [pk, h]
    go_enter Try.func12, Try.ntmps12
    go_wp2
    go_ret
    exact ⟨ret_int (by rw [HP.out]), rfl⟩

theorem some_any (n : Int) (w : World) (hn : (Lit.int .i64 n).wf = true) :
    Calls Try.prog 6 #[.int .i64 n] w fun e w' => e = .returned (.int .i64 (someI n)) ∧ w = w' := by
  have HN : Hid ((Lit.int .i64 n).wf = true) := hn
  have hp := pk_bd n 333333335 (by omega)
  have HS : Hid (someI n = if 333333333 < pk n 333333335 then 1000000001 else pk n 333333335) := rfl
  clear hn
  generalize hg : pk n 333333335 = p at hp HS
  have HG : Hid (pk n 333333335 = p) := hg
  clear hg
  by_cases h : 333333333 < p
  · go_enter Try.func6, Try.ntmps6
    go_wp2_with (first | (go_at_call 12; refine (picked_any _ _ _ HN.out (by omega) (by omega)).mono ?_; rw [HG.out]; rintro e w' ⟨rfl, rfl⟩))
    go_ret
    exact ⟨ret_int (by rw [HS.out, if_pos h]), rfl⟩
  · go_enter Try.func6, Try.ntmps6
    go_wp2_with (first | (go_at_call 12; refine (picked_any _ _ _ HN.out (by omega) (by omega)).mono ?_; rw [HG.out]; rintro e w' ⟨rfl, rfl⟩))
    go_ret
    exact ⟨ret_int (by rw [HS.out, if_neg (by omega)]), rfl⟩

def mn (a b : Int) : Int := min a b
def tm (a b : Int) : Int := if a = 1000000001 ∨ b = 1000000001 then 1000000001 else a + b
def okP (a b : Int) : Prop := Two a b
def okT (a b : Int) : Prop := Two a b ∧ (a = 1000000001 ∨ b = 1000000001 ∨ a + b ≤ 1000000000)
theorem plusR_ok {a b : Int} (h : okP a b) : plusR a b = (mn a b, 0) := by
  unfold okP Two at h
  have e : (wtB a && wtB b) = true := by rw [Bool.and_eq_true]; exact ⟨wtB_true.2 h.1, wtB_true.2 h.2⟩
  simp [plusR, e, mn]
theorem timesR_ok {a b : Int} (h : okT a b) : timesR a b = (tm a b, 0) := by
  unfold okT Two at h
  have e : (wtB a && wtB b) = true := by rw [Bool.and_eq_true]; exact ⟨wtB_true.2 h.1.1, wtB_true.2 h.1.2⟩
  unfold timesR tm
  rw [if_pos e]
  by_cases c : a = 1000000001 ∨ b = 1000000001
  · rw [if_pos c, if_pos c]
  · rw [if_neg c, if_neg c, if_neg (by omega)]

theorem bel {w0 w w' : World} (h : Below w0.heap.size w0 w) (k : Below w.heap.size w w') : Below w0.heap.size w0 w' := h.trans (k.mono h.size)

theorem plusH (a b : Int) (w0 w : World) (h : Below w0.heap.size w0 w) (ok : okP a b) :
    Calls Try.prog 7 #[.int .i64 a, .int .i64 b] w fun e w' => e = .returned (.int .i64 (mn a b)) ∧ Below w0.heap.size w0 w' := by
  have HR : Hid (plusR a b = (mn a b, 0)) := plusR_ok ok
  clear ok
  generalize mn a b = m at HR
  go_enter Try.func7, Try.ntmps7
  go_wp2_with (first | (go_at_call 13; refine (plus_any _ _ _).mono ?_; rw [HR.out]; rintro e w' ⟨rfl, hb⟩))
  go_ret
  exact ⟨rfl, bel h hb⟩
theorem timesH (a b : Int) (w0 w : World) (h : Below w0.heap.size w0 w) (ok : okT a b) :
    Calls Try.prog 8 #[.int .i64 a, .int .i64 b] w fun e w' => e = .returned (.int .i64 (tm a b)) ∧ Below w0.heap.size w0 w' := by
  have HR : Hid (timesR a b = (tm a b, 0)) := timesR_ok ok
  clear ok
  generalize tm a b = m at HR
  go_enter Try.func8, Try.ntmps8
  go_wp2_with (first | (go_at_call 14; refine (times_any _ _ _).mono ?_; rw [HR.out]; rintro e w' ⟨rfl, hb⟩))
  go_ret
  exact ⟨rfl, bel h hb⟩
end Go.Proofs.Ytanibikfhnglkab.Wt
