/- What core.Check answers. -/
import Derived.Test.YtkeeiihaijhdoaaMc
import Derived.Test.YtkeeiihaijhdoaaBlk
import Derived.Shelf.Abstract
namespace Go.Proofs.Ytkeeiihaijhdoaa.Wt
open Go.ChangeShapes Go.WideShapes Go.ChangeAt Go.RowKit
open Go.Proofs.Ytkeeiihaijhdoaa.Pl
set_option linter.unusedVariables false
theorem arcsOf_any (v : Value) (m : Mc) (w : World) (h : Mach w v m) (hok : okM m) (h60 : m.2.length ≤ 60) (q : Nat) (hq : arcN m.2 = q) :
    Calls Try.prog 49 #[v] w fun e w' => e = .returned (.int .i64 q) ∧ Below w.heap.size w w' := by
  subst hq
  obtain ⟨z, l⟩ := m
  obtain ⟨vs, rfl, hS⟩ := h
  obtain ⟨a, cap, rfl, hc⟩ := hS.get
  have hA := okM_arcs hok h60
  clear hS hok
  have HX : Hid (∀ k, arcN (l.take k) ≤ 60 * 4398046511104) := hA
  have HC : Hid (∀ j, j < l.length → ∃ b off va, a = some ⟨b, off, none⟩ ∧ b < w.heap.size ∧ w.cell? ⟨b, off + j * 2, none⟩ = some (.int .i64 (el l j).1) ∧ w.cell? ⟨b, off + j * 2 + 1, none⟩ = some va ∧ Arcs w va (el l j).2) := hc
  clear hA hc
  simp only at h60 ⊢
  generalize hn : l.length = n at *
  go_enter Try.func49, Try.ntmps49
  go_wp2
  go_loopw [3, 9] (fun s i wr => ∃ k : Nat, k ≤ n ∧ i = .int .i64 k ∧ s = .int .i64 (arcN (l.take k)) ∧ Below w.heap.size w wr) (fun _ i _ => n - (intOf i).toNat)
  case atStart => exact ⟨0, Nat.zero_le _, rfl, rfl, by go_grown⟩
  case round =>
    obtain ⟨k, hk, rfl, rfl, hb⟩ := hrel
    by_cases hlt : k < n
    · obtain ⟨b, off, va, rfl, hbl, g0, g1, gA⟩ := HC.out k hlt
      obtain ⟨a2, cap2, rfl⟩ := gA.sl
      have g0 := (hb.cell (p := ⟨b, off + k * 2, none⟩) hbl).trans g0
      have g1 := (hb.cell (p := ⟨b, off + k * 2 + 1, none⟩) hbl).trans g1
      have h1 := HX.out k
      have h2 := HX.out (k + 1)
      have HE : Hid (arcN (l.take (k + 1)) = arcN (l.take k) + (el l k).2.length) := arcN_take (by omega)
      rw [HE.out] at h2
      clear gA
      generalize arcN (l.take k) = s at *
      generalize (el l k).2.length = q at *
      generalize (el l k).1 = f at *
      go_wp2
      go_roundw
      case rel => exact ⟨k + 1, by omega, by go_num, by rw [HE.out]; go_num, hb.alloc hb.size _⟩
      case measure => simp [intOf]; omega
    · go_wp2
      go_ret
      have hke : k = n := by omega
      refine ⟨ret_intK ?_, hb⟩
      rw [hke, ← hn, List.take_length]
/-- What a question asked of each state may do: it answers p, in every later world. -/
def AskS (g : Nat) (lb : Array Value) (p : St → Bool) (l : List St) (w : World) : Prop :=
  (∀ ar W, (callFunc g ar).run Try.prog W = .ok (.enter g ar) W) ∧
  ∀ j, j < l.length → ∀ (W : World) (va : Value), Below w.heap.size w W → Arcs W va (el l j).2 → Calls Try.prog g (#[.agg #[.int .i64 (el l j).1, va]] ++ lb) W fun e w' => e = .returned (.bool (p (el l j))) ∧ Below W.heap.size W w'
set_option maxRecDepth 100000 in
theorem everyState_any (v : Value) (m : Mc) (w : World) (h : Mach w v m) (g : Nat) (lb : Array Value) (p : St → Bool) (hg : AskS g lb p m.2 w) (hl : m.2.length ≤ 60) (r : Bool) (hr : m.2.all p = r) :
    Calls Try.prog 68 #[v, .func (.func g) #[] lb] w fun e w' => e = .returned (.bool r) ∧ Below w.heap.size w w' := by
  obtain ⟨z, l⟩ := m
  obtain ⟨vs, rfl, hS⟩ := h
  obtain ⟨a, cap, rfl, hc⟩ := hS.get
  obtain ⟨eg, hg⟩ := hg
  simp only at hg hl hr ⊢
  have HC : Hid (∀ j, j < l.length → ∃ b off va, a = some ⟨b, off, none⟩ ∧ b < w.heap.size ∧ w.cell? ⟨b, off + j * 2, none⟩ = some (.int .i64 (el l j).1) ∧ w.cell? ⟨b, off + j * 2 + 1, none⟩ = some va ∧ Arcs w va (el l j).2) := hc
  have HG : Hid (∀ j, j < l.length → ∀ (W : World) (va : Value), Below w.heap.size w W → Arcs W va (el l j).2 → Calls Try.prog g (#[.agg #[.int .i64 (el l j).1, va]] ++ lb) W fun e w' => e = .returned (.bool (p (el l j))) ∧ Below W.heap.size W w') := hg
  have HR : Hid (l.all p = r) := hr
  clear hS hc hg hr
  generalize hn : l.length = n at *
  have HN : Hid (l.length = n) := hn
  clear hn
  have hnot : ∀ (x : Bool) (w : World), (Op.unary .not (.bool x)).run Try.prog w = .ok (.bool (!x)) w := fun _ _ => rfl
  go_enter Try.func68, Try.ntmps68
  go_wp2
  go_loopw [10] (fun i wr => ∃ k : Nat, k ≤ n ∧ i = .int .i64 k ∧ Hid ((l.take k).all p = true) ∧ Below w.heap.size w wr) (fun i _ => n - (intOf i).toNat)
  case atStart => exact ⟨0, Nat.zero_le _, rfl, rfl, by go_grown⟩
  case round =>
    obtain ⟨k, hk, rfl, hok, hb⟩ := hrel
    by_cases hlt : k < n
    · obtain ⟨b, off, va, rfl, hbl, g0, g1, gA⟩ := HC.out k hlt
      have g0 := (hb.cell (p := ⟨b, off + k * 2, none⟩) hbl).trans g0
      have g1 := (hb.cell (p := ⟨b, off + k * 2 + 1, none⟩) hbl).trans g1
      have GA := gA.later hb (Nat.le_refl _)
      have GA2 : Hid (Arcs (wr.alloc (.cells #[.int .i64 (el l k).1, va] 58)) va (el l k).2) := GA.later ((Below.refl _ _).alloc (Nat.le_refl _) _) (Nat.le_refl _)
      have HC1 := HG.out k hlt (wr.alloc (.cells #[.int .i64 (el l k).1, va] 58)) va (hb.alloc hb.size _) GA2.out
      have HB2 : Hid (Below w.heap.size w (wr.alloc (.cells #[.int .i64 (el l k).1, va] 58))) := hb.alloc hb.size _
      obtain ⟨a2, cap2, hva⟩ := GA.sl
      subst hva
      rcases bool_cases' (p (el l k)) with hp | hp
      · have HO : Hid ((l.take (k + 1)).all p = true) := by show _ = _; rw [all_take_succ (by rw [HN.out]; exact hlt), hok.out, hp]; rfl
        rw [hp] at HC1
        have HCC : Hid (Calls Try.prog g (#[.agg #[.int .i64 (el l k).1, .slice a2 (el l k).2.length cap2]] ++ lb) (wr.alloc (.cells #[.int .i64 (el l k).1, .slice a2 (el l k).2.length cap2] 58)) fun e w' => e = .returned (.bool true) ∧ Below (wr.alloc (.cells #[.int .i64 (el l k).1, .slice a2 (el l k).2.length cap2] 58)).heap.size (wr.alloc (.cells #[.int .i64 (el l k).1, .slice a2 (el l k).2.length cap2] 58)) w') := HC1
        clear HC1 GA GA2 gA hp hok
        generalize (el l k).2.length = q at *
        generalize (el l k).1 = f at *
        go_wp2_with (go_at_fn g; refine HCC.out.mono ?_; rintro e w' ⟨rfl, hb'⟩; have HB3 : Hid (Below w.heap.size w w') := HB2.out.trans (hb'.mono HB2.out.size); clear hb')
        go_roundw
        case rel => exact ⟨k + 1, by omega, by go_num, HO, HB3.out⟩
        case measure => simp [intOf]; omega
      · have HO : Hid (false = r) := by show _ = _; rw [← HR.out]; exact (all_false_el (by rw [HN.out]; exact hlt) hp).symm
        rw [hp] at HC1
        have HCC : Hid (Calls Try.prog g (#[.agg #[.int .i64 (el l k).1, .slice a2 (el l k).2.length cap2]] ++ lb) (wr.alloc (.cells #[.int .i64 (el l k).1, .slice a2 (el l k).2.length cap2] 58)) fun e w' => e = .returned (.bool false) ∧ Below (wr.alloc (.cells #[.int .i64 (el l k).1, .slice a2 (el l k).2.length cap2] 58)).heap.size (wr.alloc (.cells #[.int .i64 (el l k).1, .slice a2 (el l k).2.length cap2] 58)) w') := HC1
        clear HC1 GA GA2 gA hp hok
        generalize (el l k).2.length = q at *
        generalize (el l k).1 = f at *
        go_wp2_with (go_at_fn g; refine HCC.out.mono ?_; rintro e w' ⟨rfl, hb'⟩; have HB3 : Hid (Below w.heap.size w w') := HB2.out.trans (hb'.mono HB2.out.size); clear hb')
        go_ret
        exact ⟨ret_boolK HO.out, HB3.out⟩
    · have hke : k = n := by omega
      have HO : Hid (true = r) := by show _ = _; rw [← HR.out]; have h := hok.out; rw [hke, ← HN.out, List.take_length] at h; exact h.symm
      have hnl : ¬ (k : Int) < (n : Int) := by omega
      clear hke hok hlt
      go_wp2
      go_ret
      exact ⟨ret_boolK HO.out, hb⟩
end Go.Proofs.Ytkeeiihaijhdoaa.Wt
