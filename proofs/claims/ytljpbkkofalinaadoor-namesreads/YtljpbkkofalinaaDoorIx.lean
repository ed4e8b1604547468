/- The index of a table: filled once, then asked. -/
import Derived.Test.YtljpbkkofalinaaDoorDo
import Derived.Maps.OwnSet
import Derived.Deep.QuietTactic
import Derived.BigQuiet
namespace Go.Proofs.YtljpbkkofalinaaDoor.Wt
open Go.ChangeShapes Go.WideShapes Go.ChangeAt Go.RowKit Go.Maps
open Go.Proofs.YtljpbkkofalinaaDoor.Pl
set_option linter.unusedVariables false
/-- The index of the table ns stands at block b, filled. -/
def Idx (B b : Nat) (v : Value) (ns : List Nm) (w0 w : World) : Prop :=
  Below B w0 w ∧ B ≤ w.heap.size ∧ ∃ se bt bl, Blk w b #[v, .int .u32 1, .int .i32 0, se, .map (some bt), .map (some bl)] 83 ∧ OwnT w bt ns.length (tMap ns ns.length) ∧ OwnL w bl ns.length (lMap ns ns.length)
theorem Idx.ofFill {B p b : Nat} {v se : Value} {ns : List Nm} {w0 w : World} {bt bl : Nat} (h : Fill B p b v (.int .u32 1) (.int .i32 0) se ns w0 bt bl ns.length w) : Idx B b v ns w0 w :=
  ⟨h.bel, h.size, se, bt, bl, h.idx, h.txt, h.lab⟩
theorem Idx.alloc {B b : Nat} {v : Value} {ns : List Nm} {w0 w : World} (h : Idx B b v ns w0 w) (o : Obj) : Idx B b v ns w0 (w.alloc o) := by
  obtain ⟨h1, h2, se, bt, bl, h3, h4, h5⟩ := h
  exact ⟨h1.alloc h2 o, by simp; omega, se, bt, bl, h3.alloc o, World.ownsMap.alloc h4 o, World.ownsMap.alloc h5 o⟩
theorem Idx.drewN {B b : Nat} {v : Value} {ns : List Nm} {w0 w : World} (h : Idx B b v ns w0 w) (n : Nat) : Idx B b v ns w0 (w.drewN n) := by
  obtain ⟨h1, h2, se, bt, bl, h3, h4, h5⟩ := h
  exact ⟨below_drewN h1 n, h2, se, bt, bl, h3, h4, h5⟩
theorem Idx.from {B b : Nat} {v : Value} {ns : List Nm} {w0 w1 w : World} (h : Idx B b v ns w1 w) (h0 : Below B w0 w1) : Idx B b v ns w0 w := ⟨h0.trans h.1, h.2⟩
theorem zeroInt (w : World) : (zeroValue 3).run Tryd.prog w = .ok (.int .i64 0) w := by kernel_rfl
set_option maxRecDepth 100000 in
theorem look_text {w : World} {m : Nat} {ns : List Nm} (h : OwnT w m ns.length (tMap ns ns.length)) (s : ByteArray) (hs : s.size ≤ maxLen) :
    (∃ j, textAt ns s j ∧ (Instr.lookup 80 (.map (some m)) (.string s) true).run Tryd.prog w = .ok (.tuple #[.int .i64 (j : Int), .bool true]) w) ∨
    ((∀ j, ¬ textAt ns s j) ∧ (Instr.lookup 80 (.map (some m)) (.string s) true).run Tryd.prog w = .ok (.tuple #[.int .i64 0, .bool false]) w) := by
  obtain ⟨v, ps, hr, hv⟩ := World.ownsMap.look_ok h lawT Tryd.underlying80 (zeroInt w) (plainElem_int Tryd.underlying3 (by decide)) (WideMaps.keyOf_string_mk Tryd.underlying9 hs)
  obtain ⟨c, rfl, hc, _⟩ := plainElem_int_inv Tryd.underlying3 hv
  have hc' := congrArg Prod.fst hc
  simp only at hc'
  rcases tMap_look ns s with ⟨h1, h2⟩ | ⟨h1, j, h2, h3⟩
  · right
    refine ⟨h2, ?_⟩
    have e := atKey_of_not_has h1 (DataW.lit (.int .i64 0))
    simp only [textK] at e h1
    rw [e] at hc'
    rw [h1] at hr
    injection hc' with e1
    injection e1 with _ e2
    rw [← e2] at hr
    exact hr
  · left
    refine ⟨j, h2, ?_⟩
    have e := h3 (DataW.lit (.int .i64 0))
    simp only [textK, place] at e h1
    rw [e] at hc'
    rw [h1] at hr
    injection hc' with e1
    injection e1 with _ e2
    rw [← e2] at hr
    exact hr
set_option maxRecDepth 100000 in
theorem look_label {w : World} {m : Nat} {ns : List Nm} (h : OwnL w m ns.length (lMap ns ns.length)) (x : Int) (hs : (Lit.int .i64 x).wf = true) :
    (∃ j, labAt ns x j ∧ (Instr.lookup 81 (.map (some m)) (.int .i64 x) true).run Tryd.prog w = .ok (.tuple #[.int .i64 (j : Int), .bool true]) w) ∨
    ((∀ j, ¬ labAt ns x j) ∧ (Instr.lookup 81 (.map (some m)) (.int .i64 x) true).run Tryd.prog w = .ok (.tuple #[.int .i64 0, .bool false]) w) := by
  obtain ⟨v, ps, hr, hv⟩ := World.ownsMap.look_ok h lawL Tryd.underlying81 (zeroInt w) (plainElem_int Tryd.underlying3 (by decide)) (keyOf_int_mk Tryd.underlying3 hs)
  obtain ⟨c, rfl, hc, _⟩ := plainElem_int_inv Tryd.underlying3 hv
  have hc' := congrArg Prod.fst hc
  simp only at hc'
  rcases lMap_look ns x with ⟨h1, h2⟩ | ⟨h1, j, h2, h3⟩
  · right
    refine ⟨h2, ?_⟩
    have e := atKey_of_not_has h1 (DataW.lit (.int .i64 0))
    simp only [labK] at e h1
    rw [e] at hc'
    rw [h1] at hr
    injection hc' with e1
    injection e1 with _ e2
    rw [← e2] at hr
    exact hr
  · left
    refine ⟨j, h2, ?_⟩
    have e := h3 (DataW.lit (.int .i64 0))
    simp only [labK, place] at e h1
    rw [e] at hc'
    rw [h1] at hr
    injection hc' with e1
    injection e1 with _ e2
    rw [← e2] at hr
    exact hr
set_option maxRecDepth 100000 in
set_option maxHeartbeats 1600000 in
theorem do_first (B p b : Nat) (v se x4 x5 : Value) (ns : List Nm) (w0 w : World) (hB : B ≤ b) (hBp : B ≤ p) (hpb : p ≠ b) (hs : B ≤ w.heap.size) (hl : ns.length ≤ 100)
    (hL : labsTo ns ns.length = true) (hT : textsTo ns ns.length = true) (hN : Nms w0 v ns) (h0 : Below B w0 w) (hB0 : w0.heap.size ≤ B)
    (hp : Blk w p #[.pointer (some ⟨b, 0, none⟩)] 59) (hb : Blk w b #[v, .int .u32 0, .int .i32 0, se, x4, x5] 83) :
    Calls Tryd.prog 54 #[.pointer (some ⟨b, 1, none⟩), .func (.func 55) #[] #[.pointer (some ⟨p, 0, none⟩)]] w fun e w' => e = .returned (.tuple #[]) ∧ Idx B b v ns w w' := by
  have HC' : Hid (Calls Tryd.prog 68 #[.pointer (some ⟨b, 1, none⟩), .func (.func 55) #[] #[.pointer (some ⟨p, 0, none⟩)]] w fun e w' => e = .returned (.tuple #[]) ∧ ∃ bt bl, Fill B p b v (.int .u32 1) (.int .i32 0) se ns w bt bl ns.length w') := slow_any B p b v se x4 x5 ns w0 w hB hBp hpb hs hl hL hT hN h0 hB0 hp hb
  have h1 := hb.cell 1 (v := .int .u32 0) rfl
  have hload := run_call_load (P := Tryd.prog) Tryd.func75 (by kernel_rfl) (by kernel_rfl) (by kernel_rfl) .u32 (by kernel_rfl) h1
  have hnot : ∀ (x : Bool) (w : World), (Op.unary .not (.bool x)).run Tryd.prog w = .ok (.bool (!x)) w := fun _ _ => rfl
  clear hp hb hN h0 hL hT
  go_enter Tryd.func54, Tryd.ntmps54
  go_wp2_with (first | (go_at_call 68; refine HC'.out.mono ?_; rintro e w' ⟨rfl, bt, bl, hF⟩) | (go_at_call 67; go_in))
  go_end0
  exact ⟨rfl, Idx.ofFill hF⟩
set_option maxRecDepth 100000 in
theorem fill_first (B b : Nat) (v se x4 x5 : Value) (ns : List Nm) (w0 w : World) (hB : B ≤ b) (hl : ns.length ≤ 100)
    (hL : labsTo ns ns.length = true) (hT : textsTo ns ns.length = true) (hN : Nms w0 v ns) (h0 : Below B w0 w) (hB0 : w0.heap.size ≤ B)
    (hb : Blk w b #[v, .int .u32 0, .int .i32 0, se, x4, x5] 83) :
    Calls Tryd.prog 43 #[.pointer (some ⟨b, 0, none⟩)] w fun e w' => e = .returned (.tuple #[]) ∧ Idx B b v ns w w' := by
  have hbl := hb.lt
  have HC : Hid (Calls Tryd.prog 54 #[.pointer (some ⟨b, 1, none⟩), .func (.func 55) #[] #[.pointer (some ⟨w.heap.size, 0, none⟩)]] (w.alloc (.cells #[.pointer (some ⟨b, 0, none⟩)] 59)) fun e w' => e = .returned (.tuple #[]) ∧ Idx B b v ns (w.alloc (.cells #[.pointer (some ⟨b, 0, none⟩)] 59)) w') := do_first B w.heap.size b v se x4 x5 ns w0 (w.alloc (.cells #[.pointer (some ⟨b, 0, none⟩)] 59)) hB (by omega) (by omega) (by simp; omega) hl hL hT hN (h0.alloc (by omega) _) hB0 (Blk.made w _ _) (hb.alloc _)
  have hmf : ∀ (fn : Fn) (first cap : Array Value) (w : World), (Instr.makeFunc fn first cap).run Tryd.prog w = .ok (.func fn first cap) w := fun _ _ _ _ => rfl
  have hB' : Below B w (w.alloc (.cells #[.pointer (some ⟨b, 0, none⟩)] 59)) := (Below.refl _ _).alloc (by omega) _
  clear hb hN h0 hL hT
  go_enter Tryd.func43, Tryd.ntmps43
  go_wp2_with (go_at_call 54; refine HC.out.mono ?_; rintro e w' ⟨rfl, hI⟩)
  go_end0
  exact ⟨rfl, hI.from hB'⟩
theorem fill_again (B b : Nat) (v : Value) (ns : List Nm) (w0 w : World) (hI : Idx B b v ns w0 w) :
    Calls Tryd.prog 43 #[.pointer (some ⟨b, 0, none⟩)] w fun e w' => e = .returned (.tuple #[]) ∧ w' = w.alloc (.cells #[.pointer (some ⟨b, 0, none⟩)] 59) := by
  obtain ⟨_, _, se, bt, bl, hb, _, _⟩ := hI
  have hmf : ∀ (fn : Fn) (first cap : Array Value) (w : World), (Instr.makeFunc fn first cap).run Tryd.prog w = .ok (.func fn first cap) w := fun _ _ _ _ => rfl
  have h1 := (hb.alloc (.cells #[.pointer (some ⟨b, 0, none⟩)] 59)).cell 1 (v := .int .u32 1) rfl
  go_enter Tryd.func43, Tryd.ntmps43
  go_wp2_with (go_at_call 54; refine (do_done ⟨b, 1, none⟩ _ _ h1).mono ?_; rintro e w' ⟨rfl, rfl⟩)
  go_end0
  exact ⟨rfl, rfl⟩
end Go.Proofs.YtljpbkkofalinaaDoor.Wt
