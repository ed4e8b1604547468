/- What the index of a table answers: whether two names share a text or a label. -/
import Derived.Test.YtljpbkkofalinaaDoorIx
namespace Go.Proofs.YtljpbkkofalinaaDoor.Wt
open Go.ChangeShapes Go.WideShapes Go.ChangeAt Go.RowKit Go.Maps
open Go.Proofs.YtljpbkkofalinaaDoor.Pl
set_option linter.unusedVariables false
set_option maxHeartbeats 1000000 in
theorem hasTwice_first (B b : Nat) (v se x4 x5 : Value) (ns : List Nm) (w0 w : World) (hB : B ≤ b) (hl : ns.length ≤ 100)
    (hL : labsTo ns ns.length = true) (hT : textsTo ns ns.length = true) (hN : Nms w0 v ns) (h0 : Below B w0 w) (hB0 : w0.heap.size ≤ B)
    (hb : Blk w b #[v, .int .u32 0, .int .i32 0, se, x4, x5] 83) :
    Calls Tryd.prog 36 #[.pointer (some ⟨b, 0, none⟩)] w fun e w' => e = .returned (.bool (twiceTo ns ns.length)) ∧ Idx B b v ns w w' := by
  have HC : Hid (Calls Tryd.prog 43 #[.pointer (some ⟨b, 0, none⟩)] w fun e w' => e = .returned (.tuple #[]) ∧ Idx B b v ns w w') := fill_first B b v se x4 x5 ns w0 w hB hl hL hT hN h0 hB0 hb
  obtain ⟨a, cap, rfl⟩ := hN.sl
  have HQ : Hid (twiceTo ns ns.length = (decide (size (tMap ns ns.length) < ns.length) || decide (size (lMap ns ns.length) < ns.length))) := twice_maps ns _
  clear hb hN h0 hL hT
  generalize hn : ns.length = n at *
  go_enter Tryd.func36, Tryd.ntmps36
  go_wp2_with (go_at_call 43; refine HC.out.mono ?_; rintro e w' ⟨rfl, hI⟩)
  have HI : Hid (Idx B b (.slice a n cap) ns w w') := hI
  obtain ⟨_, _, se, bt, bl, hb, ht, hl2⟩ := hI
  rw [hn] at ht hl2
  have c0 := hb.cell 0 (v := .slice a n cap) rfl
  have c4 := hb.cell 4 (v := .map (some bt)) rfl
  have c5 := hb.cell 5 (v := .map (some bl)) rfl
  have l1 : ∀ (j : Nat) (ty : TypeId), (Builtin.len_ #[80] ty #[.map (some bt)]).run Tryd.prog (w'.drewN j) = .ok (.int .i64 (size (tMap ns n))) (w'.drewN j) := fun j ty => World.ownsMap.len (w := w'.drewN j) ht Tryd.underlying80 ty
  have l2 : ∀ (j : Nat) (ty : TypeId), (Builtin.len_ #[81] ty #[.map (some bl)]).run Tryd.prog (w'.drewN j) = .ok (.int .i64 (size (lMap ns n))) (w'.drewN j) := fun j ty => World.ownsMap.len (w := w'.drewN j) hl2 Tryd.underlying81 ty
  clear hb ht hl2
  generalize size (tMap ns n) = s1 at l1 HQ
  generalize size (lMap ns n) = s2 at l2 HQ
  by_cases h1 : s1 < n
  · have h1' : (s1 : Int) < (n : Int) := by omega
    have HR : Hid (twiceTo ns n = true) := by show _ = _; rw [HQ.out]; simp [h1]
    clear HQ h1
    go_quiet (fail)
    go_wp2
    go_ret
    exact ⟨ret_bool HR.out.symm, HI.out.drewN _⟩
  · have h1' : decide ((s1 : Int) < (n : Int)) = false := by simp; omega
    have h1'' : decide (s1 < n) = false := by simp; omega
    by_cases h2 : s2 < n
    · have h2' : (s2 : Int) < (n : Int) := by omega
      have HR : Hid (twiceTo ns n = true) := by show _ = _; rw [HQ.out]; simp [h2]
      clear HQ h1 h2
      go_quiet (fail)
      go_wp2
      go_ret
      exact ⟨ret_bool HR.out.symm, HI.out.drewN _⟩
    · have h2' : decide ((s2 : Int) < (n : Int)) = false := by simp; omega
      have h2'' : decide (s2 < n) = false := by simp; omega
      have HR : Hid (twiceTo ns n = false) := by show _ = _; rw [HQ.out]; simp; omega
      clear HQ h1 h2
      go_quiet (fail)
      go_wp2
      go_ret
      exact ⟨ret_bool HR.out.symm, HI.out.drewN _⟩
end Go.Proofs.YtljpbkkofalinaaDoor.Wt
