/- What nameOf answers: a line's name, if it has the parts of one. -/
import Derived.Test.YtljpbkkofalinaaDoorCu
import Derived.Lib.AtoiAll
import Derived.Lib.SmallJoins
namespace Go.Proofs.YtljpbkkofalinaaDoor.Wt
open Go.ChangeShapes Go.WideShapes Go.ChangeAt Go.RowKit
open Go.Proofs.YtljpbkkofalinaaDoor.Pl
set_option linter.unusedVariables false
def ErrV (name : String) (w : World) : Prop := ∃ tp p, w.var? Tryd.prog name = some #[.iface tp p]
theorem ErrV.later {name : String} {w w' : World} (h : ErrV name w) (hb : Below w.heap.size w w') : ErrV name w' := by
  obtain ⟨tp, p, h⟩ := h
  refine ⟨tp, p, ?_⟩
  unfold World.var? at h ⊢
  cases hg : Tryd.prog.globalNamed name with
  | none => rw [hg] at h; simp at h
  | some g =>
    simp only [hg, Option.bind_some] at h ⊢
    have hlt : g < w.heap.size := by
      rcases Nat.lt_or_ge g w.heap.size with h' | h'
      · exact h'
      · rw [Array.getElem?_eq_none h'] at h; simp at h
    rw [hb.block g hlt]
    exact h
def Errs (w : World) : Prop := ErrV "strconv.ErrSyntax" w ∧ ErrV "strconv.ErrRange" w
theorem Errs.later {w w' : World} (h : Errs w) (hb : Below w.heap.size w w') : Errs w' := ⟨h.1.later hb, h.2.later hb⟩
def parseL (l : List UInt8) : Option Nm := match Lib.atoiAll (aft 32 l) with | .ok v => some (textS (bef 32 l), v) | _ => none
theorem below_bytes (w : World) (t : TypeId) (s : ByteArray) : Below w.heap.size w (Lib.bytesWorld w t s) := by
  exact Go.Joins.below_bytesWorld _ w t s (Nat.le_refl _)
theorem atoi_ok (s : ByteArray) (w : World) (hs : s.size ≤ 1000000) (v : Int) (h : Lib.atoiAll s.data.toList = .ok v) :
    Calls Tryd.prog 32 #[.string s] w fun e w' => e = .returned (.tuple #[.int .i64 v, .nilIface]) ∧ Below w.heap.size w w' := by
  refine (Tryd.strconv_Atoi_ok s (by omega) v h w).mono ?_
  rintro e w' ⟨rfl, rfl | ⟨t, rfl⟩⟩
  · exact ⟨rfl, Below.refl _ _⟩
  · exact ⟨rfl, below_bytes _ _ _⟩
theorem atoi_no (s : ByteArray) (w : World) (hs : s.size ≤ 1000000) (he : Errs w) (h : ∀ v, Lib.atoiAll s.data.toList ≠ .ok v) :
    Calls Tryd.prog 32 #[.string s] w fun e w' => ∃ v t x, e = .returned (.tuple #[.int .i64 v, .iface t x]) ∧ Below w.heap.size w w' := by
  obtain ⟨⟨tp, p, h1⟩, ⟨tp2, p2, h2⟩⟩ := he
  rcases hk : Lib.atoiAll s.data.toList with v | _ | _
  · exact absurd hk (h v)
  · refine (Go.Proofs.Any.strconv_Atoi_syntax_var Tryd.laysC172 s (by omega) hk tp p w h1).mono ?_
    rintro e w' ⟨N, rfl, _, _, hb⟩
    exact ⟨_, _, _, rfl, hb⟩
  · refine (Tryd.strconv_Atoi_range_var s (by omega) hk tp2 p2 w h2).mono ?_
    rintro e w' ⟨N, rfl, _, _, hb⟩
    exact ⟨_, _, _, rfl, hb⟩
theorem clone_str (s : ByteArray) (w : World) (h : s.size ≤ 281474976710656) :
    Calls Tryd.prog 33 #[.string s] w fun e w' => e = .returned (.string s) ∧ Below w.heap.size w w' := by
  go_enter Tryd.func33, Tryd.ntmps33
  go_wp2_with (first | (go_at_call 42; (with_reducible refine (Tryd.stringslite_Clone _ _ h).mono ?_); rintro e w' ⟨rfl, hb⟩))
  go_ret
  exact ⟨rfl, hb⟩
theorem keepC {w w' : World} {x : ByteArray} {y : Int} {t : TypeId} (nn : Nat) (h : Below (((w.alloc (.cells #[.string x, .int .i64 y] t)).drewN nn).heap.size) ((w.alloc (.cells #[.string x, .int .i64 y] t)).drewN nn) w') :
    w'.cell? ⟨w.heap.size, 0, none⟩ = some (.string x) ∧ w'.cell? ⟨w.heap.size, 1, none⟩ = some (.int .i64 y) ∧ (∀ o, w'.frozen? ⟨w.heap.size, o, none⟩ = false) ∧ w.heap.size < w'.heap.size := by
  have hl : w.heap.size < ((w.alloc (.cells #[.string x, .int .i64 y] t)).drewN nn).heap.size := by show _ < (w.alloc (.cells #[.string x, .int .i64 y] t)).heap.size; simp
  refine ⟨?_, ?_, fun o => ?_, Nat.lt_of_lt_of_le hl h.size⟩
  · rw [h.cell hl]; show (w.alloc (.cells #[.string x, .int .i64 y] t)).cell? _ = _; simp
  · rw [h.cell hl]; show (w.alloc (.cells #[.string x, .int .i64 y] t)).cell? _ = _; simp
  · rw [h.frozen (p := ⟨w.heap.size, o, none⟩) hl]; show (w.alloc (.cells #[.string x, .int .i64 y] t)).frozen? _ = _; simp
theorem keepB {w w' : World} {o : Obj} (nn : Nat) (h : Below (((w.alloc o).drewN nn).heap.size) ((w.alloc o).drewN nn) w') : Below w.heap.size w w' :=
  (below_drewN ((Below.refl _ _).alloc (Nat.le_refl _) o) nn).trans (h.mono (by show _ ≤ (w.alloc o).heap.size; simp))
theorem parse_some {l : List UInt8} {p : Nm} (h : parseL l = some p) : p.1 = textS (bef 32 l) ∧ Lib.atoiAll (aft 32 l) = .ok p.2 := by
  unfold parseL at h
  split at h
  · rename_i v hv
    simp at h
    rw [← h]
    exact ⟨rfl, hv⟩
  · simp at h
theorem parse_none {l : List UInt8} (h : parseL l = none) : ∀ v, Lib.atoiAll (aft 32 l) ≠ .ok v := by
  intro v hv
  unfold parseL at h
  rw [hv] at h
  simp at h
theorem textS_size (l : List UInt8) : (textS l).size = l.length := rfl
theorem textS_list (l : List UInt8) : (textS l).data.toList = l := rfl
theorem aft_le (c : UInt8) (l : List UInt8) : (aft c l).length ≤ l.length := by
  by_cases h : l = []
  · subst h; exact Nat.le_refl _
  · exact Nat.le_of_lt (aft_lt c l h)
set_option maxHeartbeats 1000000 in
theorem nameOf_ok (s : ByteArray) (w : World) (hs : s.size ≤ 20000) (p : Nm) (hp : parseL s.data.toList = some p) :
    Calls Tryd.prog 20 #[.string s] w fun e w' => e = .returned (.tuple #[.agg #[.string p.1, .int .i64 p.2], .bool true]) ∧ Below w.heap.size w w' := by
  obtain ⟨h1, h2⟩ := parse_some hp
  have hl : s.data.toList.length = s.size := by simp
  have hb1 := bef_le 32 s.data.toList
  have hb2 := aft_le 32 s.data.toList
  obtain ⟨x, y⟩ := p
  simp only at h1 h2
  have HX : Hid (textS (bef 32 s.data.toList) = x) := h1.symm
  obtain ⟨d, hd⟩ : ∃ d, textS (aft 32 s.data.toList) = d := ⟨_, rfl⟩
  have HY : Hid (textS (aft 32 s.data.toList) = d) := hd
  have HZ : Hid (d.size ≤ 1000000) := by show _ ≤ _; rw [← hd, textS_size]; omega
  have HW : Hid (x.size ≤ 281474976710656) := by show _ ≤ _; rw [h1, textS_size]; omega
  have HA : Hid (Lib.atoiAll d.data.toList = .ok y) := by show _ = _; rw [← hd, textS_list]; exact h2
  have HS : Hid (s.size ≤ 1000000) := by show _ ≤ _; omega
  clear h1 h2 hd hb1 hb2 hp hl
  go_enter Tryd.func20, Tryd.ntmps20
  go_wp2_with (first
    | (go_at_call 31; (refine (cut_any s 32 _ HS.out x d _ HX.out HY.out rfl).mono ?_); rintro e w1 ⟨rfl, nn, rfl⟩)
    | (go_at_call 32; (with_reducible refine (atoi_ok d _ HZ.out y HA.out).mono ?_); rintro e w2 ⟨rfl, hb2⟩; have c2 := (keepC nn hb2).1; have c3 := (keepC nn hb2).2.1; have f2 := (keepC nn hb2).2.2.1; have l2 := (keepC nn hb2).2.2.2; have HB2 : Hid (Below w.heap.size w w2) := keepB nn hb2; clear hb2)
    | (go_at_call 33; (with_reducible refine (clone_str x _ HW.out).mono ?_); rintro e w3 ⟨rfl, hb3⟩; have d2 := (hb3.cell (p := ⟨w.heap.size, 0, none⟩) l2).trans c2; have d3 := (hb3.cell (p := ⟨w.heap.size, 1, none⟩) l2).trans c3; have e2 : ∀ o, w3.frozen? ⟨w.heap.size, o, none⟩ = false := (fun o => (hb3.frozen (p := ⟨w.heap.size, o, none⟩) l2).trans (f2 o)); have HB3 : Hid (Below w.heap.size w w3) := HB2.out.trans (hb3.mono HB2.out.size); clear hb3))
  have r0 : ((w3.setCell ⟨w.heap.size, 0, none⟩ (.string x)).setCell ⟨w.heap.size, 1, none⟩ (.int .i64 y)).cell? ⟨w.heap.size, 0, none⟩ = some (.string x) := by
    rw [World.cell?_setCell_other _ ⟨w.heap.size, 1, none⟩ ⟨w.heap.size, 0, none⟩ _ (by simp)]; exact World.cell?_setCell_same _ _ _ d2
  have r1 : ((w3.setCell ⟨w.heap.size, 0, none⟩ (.string x)).setCell ⟨w.heap.size, 1, none⟩ (.int .i64 y)).cell? ⟨w.heap.size, 1, none⟩ = some (.int .i64 y) := by
    exact World.cell?_setCell_same _ _ _ ((World.cell?_setCell_other _ ⟨w.heap.size, 0, none⟩ ⟨w.heap.size, 1, none⟩ _ (by simp)).trans d3)
  exact bodyPost_ret (v := .tuple #[.agg #[.string x, .int .i64 y], .bool true]) (by simp [results, Tryd.results20, go_sem, r0, r1]) rfl ⟨rfl, (HB3.out.setCell (p := ⟨w.heap.size, 0, none⟩) (Nat.le_refl _) _).setCell (p := ⟨w.heap.size, 1, none⟩) (Nat.le_refl _) _⟩
set_option maxHeartbeats 1000000 in
theorem nameOf_no (s : ByteArray) (w : World) (hs : s.size ≤ 20000) (he : Errs w) (hp : parseL s.data.toList = none) :
    Calls Tryd.prog 20 #[.string s] w fun e w' => e = .returned (.tuple #[.agg #[.string ByteArray.empty, .int .i64 0], .bool false]) ∧ Below w.heap.size w w' := by
  have h2 := parse_none hp
  have hl : s.data.toList.length = s.size := by simp
  have hb1 := bef_le 32 s.data.toList
  have hb2 := aft_le 32 s.data.toList
  obtain ⟨x, hx⟩ : ∃ d, textS (bef 32 s.data.toList) = d := ⟨_, rfl⟩
  obtain ⟨d, hd⟩ : ∃ d, textS (aft 32 s.data.toList) = d := ⟨_, rfl⟩
  have HX : Hid (textS (bef 32 s.data.toList) = x) := hx
  have HY : Hid (textS (aft 32 s.data.toList) = d) := hd
  have HZ : Hid (d.size ≤ 1000000) := by show _ ≤ _; rw [← hd, textS_size]; omega
  have HA : Hid (∀ v, Lib.atoiAll d.data.toList ≠ .ok v) := by intro v; rw [← hd, textS_list]; exact h2 v
  have HS : Hid (s.size ≤ 1000000) := by show _ ≤ _; omega
  have HE : Hid (∀ nn, Errs ((w.alloc (.cells #[.string ⟨#[]⟩, .int .i64 0] 36)).drewN nn)) := fun nn => he.later (below_drewN ((Below.refl _ _).alloc (Nat.le_refl _) _) nn)
  clear h2 hd hx hb1 hb2 hp hl he
  go_enter Tryd.func20, Tryd.ntmps20
  go_wp2_with (first
    | (go_at_call 31; (refine (cut_any s 32 _ HS.out x d _ HX.out HY.out rfl).mono ?_); rintro e w1 ⟨rfl, nn, rfl⟩)
    | (go_at_call 32; (refine (atoi_no d _ HZ.out (HE.out nn) HA.out).mono ?_); rintro e w2 ⟨vv, tt, xx, rfl, hb2⟩; have c2 := (keepC nn hb2).1; have c3 := (keepC nn hb2).2.1; have f2 := (keepC nn hb2).2.2.1; have HB2 : Hid (Below w.heap.size w w2) := keepB nn hb2; clear hb2))
  have r0 : ((w2.setCell ⟨w.heap.size, 0, none⟩ (.string ⟨#[]⟩)).setCell ⟨w.heap.size, 1, none⟩ (.int .i64 0)).cell? ⟨w.heap.size, 0, none⟩ = some (.string ⟨#[]⟩) := by
    rw [World.cell?_setCell_other _ ⟨w.heap.size, 1, none⟩ ⟨w.heap.size, 0, none⟩ _ (by simp)]; exact World.cell?_setCell_same _ _ _ c2
  have r1 : ((w2.setCell ⟨w.heap.size, 0, none⟩ (.string ⟨#[]⟩)).setCell ⟨w.heap.size, 1, none⟩ (.int .i64 0)).cell? ⟨w.heap.size, 1, none⟩ = some (.int .i64 0) := by
    exact World.cell?_setCell_same _ _ _ ((World.cell?_setCell_other _ ⟨w.heap.size, 0, none⟩ ⟨w.heap.size, 1, none⟩ _ (by simp)).trans c3)
  exact bodyPost_ret (v := .tuple #[.agg #[.string ⟨#[]⟩, .int .i64 0], .bool false]) (by simp [results, Tryd.results20, go_sem, r0, r1]) rfl ⟨rfl, (HB2.out.setCell (p := ⟨w.heap.size, 0, none⟩) (Nat.le_refl _) _).setCell (p := ⟨w.heap.size, 1, none⟩) (Nat.le_refl _) _⟩
end Go.Proofs.YtljpbkkofalinaaDoor.Wt
