/- What the index of a table answers: whether two names share a text or a label, and the places of a text and of a label. -/
import Derived.Test.YtljpbkkofalinabIx
namespace Go.Proofs.Ytljpbkkofalinab.Wt
open Go.ChangeShapes Go.WideShapes Go.ChangeAt Go.RowKit Go.Maps
open Go.Proofs.Ytljpbkkofalinab.Pl
set_option linter.unusedVariables false
set_option maxHeartbeats 1000000 in
theorem hasTwice_first (B b : Nat) (v se x4 x5 : Value) (ns : List Nm) (w0 w : World) (hB : B ≤ b) (hl : ns.length ≤ 100)
    (hL : labsTo ns ns.length = true) (hT : textsTo ns ns.length = true) (hN : Nms w0 v ns) (h0 : Below B w0 w) (hB0 : w0.heap.size ≤ B)
    (hb : Blk w b #[v, .int .u32 0, .int .i32 0, se, x4, x5] 58) :
    Calls Try.prog 13 #[.pointer (some ⟨b, 0, none⟩)] w fun e w' => e = .returned (.bool (twiceTo ns ns.length)) ∧ Idx B b v ns w w' := by
  have HC : Hid (Calls Try.prog 14 #[.pointer (some ⟨b, 0, none⟩)] w fun e w' => e = .returned (.tuple #[]) ∧ Idx B b v ns w w') := fill_first B b v se x4 x5 ns w0 w hB hl hL hT hN h0 hB0 hb
  obtain ⟨a, cap, rfl⟩ := hN.sl
  have HQ : Hid (twiceTo ns ns.length = (decide (size (tMap ns ns.length) < ns.length) || decide (size (lMap ns ns.length) < ns.length))) := twice_maps ns _
  clear hb hN h0 hL hT
  generalize hn : ns.length = n at *
  go_enter Try.func13, Try.ntmps13
  go_wp2_with (go_at_call 14; refine HC.out.mono ?_; rintro e w' ⟨rfl, hI⟩)
  have HI : Hid (Idx B b (.slice a n cap) ns w w') := hI
  obtain ⟨_, _, se, bt, bl, hb, ht, hl2⟩ := hI
  rw [hn] at ht hl2
  have c0 := hb.cell 0 (v := .slice a n cap) rfl
  have c4 := hb.cell 4 (v := .map (some bt)) rfl
  have c5 := hb.cell 5 (v := .map (some bl)) rfl
  have l1 : ∀ (j : Nat) (ty : TypeId), (Builtin.len_ #[55] ty #[.map (some bt)]).run Try.prog (w'.drewN j) = .ok (.int .i64 (size (tMap ns n))) (w'.drewN j) := fun j ty => World.ownsMap.len (w := w'.drewN j) ht Try.underlying55 ty
  have l2 : ∀ (j : Nat) (ty : TypeId), (Builtin.len_ #[56] ty #[.map (some bl)]).run Try.prog (w'.drewN j) = .ok (.int .i64 (size (lMap ns n))) (w'.drewN j) := fun j ty => World.ownsMap.len (w := w'.drewN j) hl2 Try.underlying56 ty
  clear hb ht hl2
  generalize size (tMap ns n) = s1 at l1 HQ
  generalize size (lMap ns n) = s2 at l2 HQ
  by_cases h1 : s1 < n
  · have h1' : (s1 : Int) < (n : Int) := by omega
    have HR : Hid (twiceTo ns n = true) := by show _ = _; rw [HQ.out]; simp [h1]
    clear HQ h1
    go_quiet (fail)
    go_wp2
    go_ret
    exact ⟨ret_bool HR.out.symm, HI.out.drewN _⟩
  · have h1' : decide ((s1 : Int) < (n : Int)) = false := by simp; omega
    have h1'' : decide (s1 < n) = false := by simp; omega
    by_cases h2 : s2 < n
    · have h2' : (s2 : Int) < (n : Int) := by omega
      have HR : Hid (twiceTo ns n = true) := by show _ = _; rw [HQ.out]; simp [h2]
      clear HQ h1 h2
      go_quiet (fail)
      go_wp2
      go_ret
      exact ⟨ret_bool HR.out.symm, HI.out.drewN _⟩
    · have h2' : decide ((s2 : Int) < (n : Int)) = false := by simp; omega
      have h2'' : decide (s2 < n) = false := by simp; omega
      have HR : Hid (twiceTo ns n = false) := by show _ = _; rw [HQ.out]; simp; omega
      clear HQ h1 h2
      go_quiet (fail)
      go_wp2
      go_ret
      exact ⟨ret_bool HR.out.symm, HI.out.drewN _⟩
theorem placeOfText_any (B b : Nat) (v : Value) (ns : List Nm) (w0 w : World) (hI : Idx B b v ns w0 w) (s : ByteArray) (hs : s.size ≤ maxLen) :
    Calls Try.prog 9 #[.pointer (some ⟨b, 0, none⟩), .string s] w fun e w' => Idx B b v ns w0 w' ∧ w.heap.size ≤ w'.heap.size ∧
      ((∃ j : Nat, textAt ns s j ∧ e = .returned (.tuple #[.int .i64 (j : Int), .bool true])) ∨ ((∀ j, ¬ textAt ns s j) ∧ e = .returned (.tuple #[.int .i64 0, .bool false]))) := by
  have HC : Hid (Calls Try.prog 14 #[.pointer (some ⟨b, 0, none⟩)] w fun e w' => e = .returned (.tuple #[]) ∧ w' = w.alloc (.cells #[.pointer (some ⟨b, 0, none⟩)] 35)) := fill_again B b v ns w0 w hI
  have HI : Hid (Idx B b v ns w0 (w.alloc (.cells #[.pointer (some ⟨b, 0, none⟩)] 35))) := hI.alloc _
  obtain ⟨_, _, se, bt, bl, hb, ht, hl2⟩ := hI
  have c4 := (hb.alloc (.cells #[.pointer (some ⟨b, 0, none⟩)] 35)).cell 4 (v := .map (some bt)) rfl
  have hlk := look_text (World.ownsMap.alloc ht (.cells #[.pointer (some ⟨b, 0, none⟩)] 35)) s hs
  clear hb ht hl2
  rcases hlk with ⟨j, hj, hr⟩ | ⟨hj, hr⟩
  · go_enter Try.func9, Try.ntmps9
    go_wp2_with (go_at_call 14; refine HC.out.mono ?_; rintro e w' ⟨rfl, rfl⟩)
    go_ret2
    exact ⟨HI.out, by simp, .inl ⟨j, hj, rfl⟩⟩
  · go_enter Try.func9, Try.ntmps9
    go_wp2_with (go_at_call 14; refine HC.out.mono ?_; rintro e w' ⟨rfl, rfl⟩)
    go_ret2
    exact ⟨HI.out, by simp, .inr ⟨hj, rfl⟩⟩
theorem placeOfLabel_any (B b : Nat) (v : Value) (ns : List Nm) (w0 w : World) (hI : Idx B b v ns w0 w) (x : Int) (hs : (Lit.int .i64 x).wf = true) :
    Calls Try.prog 10 #[.pointer (some ⟨b, 0, none⟩), .int .i64 x] w fun e w' => Idx B b v ns w0 w' ∧ w.heap.size ≤ w'.heap.size ∧
      ((∃ j : Nat, labAt ns x j ∧ e = .returned (.tuple #[.int .i64 (j : Int), .bool true])) ∨ ((∀ j, ¬ labAt ns x j) ∧ e = .returned (.tuple #[.int .i64 0, .bool false]))) := by
  have HC : Hid (Calls Try.prog 14 #[.pointer (some ⟨b, 0, none⟩)] w fun e w' => e = .returned (.tuple #[]) ∧ w' = w.alloc (.cells #[.pointer (some ⟨b, 0, none⟩)] 35)) := fill_again B b v ns w0 w hI
  have HI : Hid (Idx B b v ns w0 (w.alloc (.cells #[.pointer (some ⟨b, 0, none⟩)] 35))) := hI.alloc _
  obtain ⟨_, _, se, bt, bl, hb, ht, hl2⟩ := hI
  have c4 := (hb.alloc (.cells #[.pointer (some ⟨b, 0, none⟩)] 35)).cell 5 (v := .map (some bl)) rfl
  have hlk := look_label (World.ownsMap.alloc hl2 (.cells #[.pointer (some ⟨b, 0, none⟩)] 35)) x hs
  clear hb ht hl2
  rcases hlk with ⟨j, hj, hr⟩ | ⟨hj, hr⟩
  · go_enter Try.func10, Try.ntmps10
    go_wp2_with (go_at_call 14; refine HC.out.mono ?_; rintro e w' ⟨rfl, rfl⟩)
    go_ret2
    exact ⟨HI.out, by simp, .inl ⟨j, hj, rfl⟩⟩
  · go_enter Try.func10, Try.ntmps10
    go_wp2_with (go_at_call 14; refine HC.out.mono ?_; rintro e w' ⟨rfl, rfl⟩)
    go_ret2
    exact ⟨HI.out, by simp, .inr ⟨hj, rfl⟩⟩
end Go.Proofs.Ytljpbkkofalinab.Wt
