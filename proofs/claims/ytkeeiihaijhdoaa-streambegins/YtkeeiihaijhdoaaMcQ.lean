/- A question asked of each arc of a machine. -/
import Derived.Test.YtkeeiihaijhdoaaMcP
namespace Go.Proofs.Ytkeeiihaijhdoaa.Wt
open Go.ChangeShapes Go.WideShapes Go.ChangeAt Go.RowKit
open Go.Proofs.Ytkeeiihaijhdoaa.Pl
set_option linter.unusedVariables false
def valA (a : Ar) : Value := .agg #[.int .i64 a.1, .int .i64 a.2.1, .int .i64 a.2.2.1, .int .i64 a.2.2.2]
/-- What a question asked of each arc may do: it answers p, in every later world. -/
def AskA (g : Nat) (lb : Array Value) (p : Ar → Bool) (w : World) : Prop :=
  (∀ ar W, (callFunc g ar).run Try.prog W = .ok (.enter g ar) W) ∧
  ∀ (a : Ar) (W : World), Below w.heap.size w W → Calls Try.prog g (#[.agg #[.int .i64 a.1, .int .i64 a.2.1, .int .i64 a.2.2.1, .int .i64 a.2.2.2]] ++ lb) W fun e w' => e = .returned (.bool (p a)) ∧ Below W.heap.size W w'
theorem AskA.later {g : Nat} {lb : Array Value} {p : Ar → Bool} {w w' : World} (h : AskA g lb p w) (hb : Below w.heap.size w w') : AskA g lb p w' := ⟨h.1, fun a W hW => h.2 a W (hb.trans (hW.mono hb.size))⟩
set_option maxRecDepth 100000 in
set_option maxHeartbeats 1000000 in
theorem arcsAll_any (f : Int) (va : Value) (l : List Ar) (B : Nat) (w W : World) (g : Nat) (lb : Array Value) (p : Ar → Bool) (hg : AskA g lb p w) (hB : w.cell? ⟨B, 0, none⟩ = some (.func (.func g) #[] lb)) (hW : Below w.heap.size w W) (hA : Arcs W va l) (hl : l.length ≤ 4398046511104) (r : Bool) (hr : l.all p = r) :
    Calls Try.prog 76 #[.agg #[.int .i64 f, va], .pointer (some ⟨B, 0, none⟩)] W fun e w' => e = .returned (.bool r) ∧ Below W.heap.size W w' := by
  obtain ⟨a, cap, rfl, hc⟩ := hA.get
  obtain ⟨eg, hg⟩ := hg
  have HC : Hid (∀ j, j < l.length → ∃ b off, a = some ⟨b, off, none⟩ ∧ b < W.heap.size ∧ W.cell? ⟨b, off + j * 4, none⟩ = some (.int .i64 (el l j).1) ∧ W.cell? ⟨b, off + j * 4 + 1, none⟩ = some (.int .i64 (el l j).2.1) ∧ W.cell? ⟨b, off + j * 4 + 2, none⟩ = some (.int .i64 (el l j).2.2.1) ∧ W.cell? ⟨b, off + j * 4 + 3, none⟩ = some (.int .i64 (el l j).2.2.2)) := hc
  have HG : Hid (∀ (a : Ar) (V : World), Below w.heap.size w V → Calls Try.prog g (#[.agg #[.int .i64 a.1, .int .i64 a.2.1, .int .i64 a.2.2.1, .int .i64 a.2.2.2]] ++ lb) V fun e w' => e = .returned (.bool (p a)) ∧ Below V.heap.size V w') := hg
  have HR : Hid (l.all p = r) := hr
  have hBl := World.block_lt_of_cell? _ _ hB
  have hB1 : W.cell? ⟨B, 0, none⟩ = some (.func (.func g) #[] lb) := (hW.cell (p := ⟨B, 0, none⟩) hBl).trans hB
  have HW : Hid (Below w.heap.size w W) := hW
  have hBW : B < W.heap.size := World.block_lt_of_cell? _ _ hB1
  clear hA hc hg hr hW hB
  generalize hn : l.length = n at *
  have HN : Hid (l.length = n) := hn
  clear hn
  have hnot : ∀ (x : Bool) (w : World), (Op.unary .not (.bool x)).run Try.prog w = .ok (.bool (!x)) w := fun _ _ => rfl
  go_enter Try.func76, Try.ntmps76
  go_wp2
  go_loopw [9] (fun i wr => ∃ k : Nat, k ≤ n ∧ i = .int .i64 k ∧ Hid ((l.take k).all p = true) ∧ Below W.heap.size W wr) (fun i _ => n - (intOf i).toNat)
  case atStart => exact ⟨0, Nat.zero_le _, rfl, rfl, by go_grown⟩
  case round =>
    obtain ⟨k, hk, rfl, hok, hb⟩ := hrel
    by_cases hlt : k < n
    · obtain ⟨b, off, rfl, hbl, g0, g1, g2, g3⟩ := HC.out k hlt
      have g0 := (hb.cell (p := ⟨b, off + k * 4, none⟩) hbl).trans g0
      have g1 := (hb.cell (p := ⟨b, off + k * 4 + 1, none⟩) hbl).trans g1
      have g2 := (hb.cell (p := ⟨b, off + k * 4 + 2, none⟩) hbl).trans g2
      have g3 := (hb.cell (p := ⟨b, off + k * 4 + 3, none⟩) hbl).trans g3
      have g4 := (hb.cell (p := ⟨B, 0, none⟩) hBW).trans hB1
      have hBr : B < wr.heap.size := Nat.lt_of_lt_of_le hBW hb.size
      have HB2 : Hid (Below W.heap.size W (wr.alloc (.cells #[.int .i64 (el l k).1, .int .i64 (el l k).2.1, .int .i64 (el l k).2.2.1, .int .i64 (el l k).2.2.2] 75))) := hb.alloc hb.size _
      have HC1 := HG.out (el l k) (wr.alloc (.cells #[.int .i64 (el l k).1, .int .i64 (el l k).2.1, .int .i64 (el l k).2.2.1, .int .i64 (el l k).2.2.2] 75)) (HW.out.trans (HB2.out.mono HW.out.size))
      rcases bool_cases' (p (el l k)) with hp | hp
      · have HO : Hid ((l.take (k + 1)).all p = true) := by show _ = _; rw [all_take_succ (by rw [HN.out]; exact hlt), hok.out, hp]; rfl
        rw [hp] at HC1
        have HCC : Hid (Calls Try.prog g (#[.agg #[.int .i64 (el l k).1, .int .i64 (el l k).2.1, .int .i64 (el l k).2.2.1, .int .i64 (el l k).2.2.2]] ++ lb) (wr.alloc (.cells #[.int .i64 (el l k).1, .int .i64 (el l k).2.1, .int .i64 (el l k).2.2.1, .int .i64 (el l k).2.2.2] 75)) fun e w' => e = .returned (.bool true) ∧ Below (wr.alloc (.cells #[.int .i64 (el l k).1, .int .i64 (el l k).2.1, .int .i64 (el l k).2.2.1, .int .i64 (el l k).2.2.2] 75)).heap.size (wr.alloc (.cells #[.int .i64 (el l k).1, .int .i64 (el l k).2.1, .int .i64 (el l k).2.2.1, .int .i64 (el l k).2.2.2] 75)) w') := HC1
        clear HC1 hp hok
        generalize (el l k).1 = x0 at *
        generalize (el l k).2.1 = x1 at *
        generalize (el l k).2.2.1 = x2 at *
        generalize (el l k).2.2.2 = x3 at *
        go_wp2_with (go_at_fn g; refine HCC.out.mono ?_; rintro e w' ⟨rfl, hb'⟩; have HB3 : Hid (Below W.heap.size W w') := HB2.out.trans (hb'.mono HB2.out.size); clear hb')
        go_roundw
        case rel => exact ⟨k + 1, by omega, by go_num, HO, HB3.out⟩
        case measure => simp [intOf]; omega
      · have HO : Hid (false = r) := by show _ = _; rw [← HR.out]; exact (all_false_el (by rw [HN.out]; exact hlt) hp).symm
        rw [hp] at HC1
        have HCC : Hid (Calls Try.prog g (#[.agg #[.int .i64 (el l k).1, .int .i64 (el l k).2.1, .int .i64 (el l k).2.2.1, .int .i64 (el l k).2.2.2]] ++ lb) (wr.alloc (.cells #[.int .i64 (el l k).1, .int .i64 (el l k).2.1, .int .i64 (el l k).2.2.1, .int .i64 (el l k).2.2.2] 75)) fun e w' => e = .returned (.bool false) ∧ Below (wr.alloc (.cells #[.int .i64 (el l k).1, .int .i64 (el l k).2.1, .int .i64 (el l k).2.2.1, .int .i64 (el l k).2.2.2] 75)).heap.size (wr.alloc (.cells #[.int .i64 (el l k).1, .int .i64 (el l k).2.1, .int .i64 (el l k).2.2.1, .int .i64 (el l k).2.2.2] 75)) w') := HC1
        clear HC1 hp hok
        generalize (el l k).1 = x0 at *
        generalize (el l k).2.1 = x1 at *
        generalize (el l k).2.2.1 = x2 at *
        generalize (el l k).2.2.2 = x3 at *
        go_wp2_with (go_at_fn g; refine HCC.out.mono ?_; rintro e w' ⟨rfl, hb'⟩; have HB3 : Hid (Below W.heap.size W w') := HB2.out.trans (hb'.mono HB2.out.size); clear hb')
        go_ret
        exact ⟨ret_boolK HO.out, HB3.out⟩
    · have hke : k = n := by omega
      have HO : Hid (true = r) := by show _ = _; rw [← HR.out]; have h := hok.out; rw [hke, ← HN.out, List.take_length] at h; exact h.symm
      have hnl : ¬ (k : Int) < (n : Int) := by omega
      clear hke hok hlt
      go_wp2
      go_ret
      exact ⟨ret_boolK HO.out, hb⟩
theorem arcsAll_ask (B : Nat) (l : List St) (w : World) (g : Nat) (lb : Array Value) (p : Ar → Bool) (hg : AskA g lb p w) (hB : w.cell? ⟨B, 0, none⟩ = some (.func (.func g) #[] lb)) (hl : ∀ j, j < l.length → (el l j).2.length ≤ 4398046511104) :
    AskS 76 #[.pointer (some ⟨B, 0, none⟩)] (fun s => s.2.all p) l w :=
  ⟨enters_of Try.func76 (by kernel_rfl) rfl, fun j hj W va hW hA => arcsAll_any _ va _ B w W g lb p hg hB hW hA (hl j hj) _ rfl⟩
theorem everyArc_any (v : Value) (m : Mc) (w : World) (h : Mach w v m) (g : Nat) (lb : Array Value) (p : Ar → Bool) (hg : AskA g lb p w) (hok : okM m) (hl : m.2.length ≤ 60) (r : Bool) (hr : m.2.all (fun s => s.2.all p) = r) :
    Calls Try.prog 69 #[v, .func (.func g) #[] lb] w fun e w' => e = .returned (.bool r) ∧ Below w.heap.size w w' := by
  obtain ⟨z, l⟩ := m
  obtain ⟨vs, rfl, hS⟩ := h
  obtain ⟨a, cap, rfl⟩ := hS.sl
  have HM : Hid (Mach w (.agg #[.int .i64 z, .slice a l.length cap]) (z, l)) := ⟨_, rfl, hS⟩
  have HG : Hid (AskA g lb p w) := hg
  have HL : Hid (∀ j, j < l.length → (el l j).2.length ≤ 4398046511104) := fun j hj => by have := hok.2 j hj; simp only at this; omega
  have HR : Hid (l.all (fun s => s.2.all p) = r) := hr
  have H60 : Hid (l.length ≤ 60) := hl
  clear hg hS hok hr hl
  have hmf : ∀ (fn : Fn) (first cap : Array Value) (w : World), (Instr.makeFunc fn first cap).run Try.prog w = .ok (.func fn first cap) w := fun _ _ _ _ => rfl
  simp only
  generalize hn : l.length = n at *
  have HN : Hid (l.length = n) := hn
  clear hn
  have HB : Hid (Below w.heap.size w ((w.alloc (.cells #[.int .i64 z, .slice a n cap] 24)).alloc (.cells #[.func (.func g) #[] lb] 101))) := by show Below _ _ _; go_grown
  go_enter Try.func69, Try.ntmps69
  go_wp2_with (first | (go_at_call 68; (with_reducible refine (everyState_any _ (z, l) _ (HM.out.later HB.out (Nat.le_refl _)) _ _ _ (arcsAll_ask _ l _ g lb p (HG.out.later HB.out) (by go_cell) (by rw [HN.out]; exact HL.out)) (by show l.length ≤ 60; rw [HN.out]; exact H60.out) r HR.out).mono ?_); rintro e w' ⟨rfl, hb⟩))
  go_ret
  exact ⟨rfl, HB.out.trans (hb.mono HB.out.size)⟩
end Go.Proofs.Ytkeeiihaijhdoaa.Wt
