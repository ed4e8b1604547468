/- sync.Once's slow road over the index of a table: the lock is taken, the maps are filled, the two calls that were put off are made. -/
import Derived.Test.YtljpbkkofalinaaDoorFiW
import Derived.Test.YtljpbkkofalinaaDoorOn
namespace Go.Proofs.YtljpbkkofalinaaDoor.Wt
open Go.ChangeShapes Go.WideShapes Go.ChangeAt Go.RowKit Go.Maps
open Go.Proofs.YtljpbkkofalinaaDoor.Pl
set_option linter.unusedVariables false
theorem fill_done {B p b : Nat} {v se : Value} {ns : List Nm} {w w' : World} {bt bl k : Nat} (hB : B ≤ b) (hpb : p ≠ b) (h : Fill B p b v (.int .u32 0) (.int .i32 1) se ns (w.setCell ⟨b, 2, none⟩ (.int .i32 1)) bt bl k w') :
    Fill B p b v (.int .u32 1) (.int .i32 0) se ns w bt bl k ((w'.drew.setCell ⟨b, 1, none⟩ (.int .u32 1)).setCell ⟨b, 2, none⟩ (.int .i32 0)) := by
  have n1 := map_ne_blk h.idx h.txt
  have n2 := map_ne_blk h.idx h.lab
  refine ⟨?_, ?_, ?_, ?_, ?_, h.apart, h.gt, h.gl, ?_⟩
  · exact ((((Below.refl _ _).setCell hB _).trans h.bel).drew.setCell hB _).setCell hB _
  · exact (h.var.drew.setO _ _ (by simpa using hpb)).setO _ _ (by simpa using hpb)
  · exact (h.idx.drew.set 1 _).set 2 _
  · exact World.ownsMap.setCell (World.ownsMap.setCell (World.ownsMap.drew h.txt) (by simpa using n1.symm) _) (by simpa using n1.symm) _
  · exact World.ownsMap.setCell (World.ownsMap.setCell (World.ownsMap.drew h.lab) (by simpa using n2.symm) _) (by simpa using n2.symm) _
  · simp; exact h.size
set_option maxRecDepth 100000 in
set_option maxHeartbeats 1600000 in
theorem slow_any (B p b : Nat) (v se x4 x5 : Value) (ns : List Nm) (w0 w : World) (hB : B ≤ b) (hBp : B ≤ p) (hpb : p ≠ b) (hs : B ≤ w.heap.size) (hl : ns.length ≤ 100)
    (hL : labsTo ns ns.length = true) (hT : textsTo ns ns.length = true) (hN : Nms w0 v ns) (h0 : Below B w0 w) (hB0 : w0.heap.size ≤ B)
    (hp : Blk w p #[.pointer (some ⟨b, 0, none⟩)] 59) (hb : Blk w b #[v, .int .u32 0, .int .i32 0, se, x4, x5] 83) :
    Calls Tryd.prog 68 #[.pointer (some ⟨b, 1, none⟩), .func (.func 55) #[] #[.pointer (some ⟨p, 0, none⟩)]] w fun e w' => e = .returned (.tuple #[]) ∧
      ∃ bt bl, Fill B p b v (.int .u32 1) (.int .i32 0) se ns w bt bl ns.length w' := by
  have hA : Blk (w.setCell ⟨b, 2, none⟩ (.int .i32 1)) b #[v, .int .u32 0, .int .i32 1, se, x4, x5] 83 := hb.set 2 _
  have hP : Blk (w.setCell ⟨b, 2, none⟩ (.int .i32 1)) p #[.pointer (some ⟨b, 0, none⟩)] 59 := hp.setO _ _ (by simpa using hpb)
  have HC : Hid (Calls Tryd.prog 55 #[.pointer (some ⟨p, 0, none⟩)] (w.setCell ⟨b, 2, none⟩ (.int .i32 1)) fun e w' => e = .returned (.tuple #[]) ∧ ∃ bt bl, Fill B p b v (.int .u32 0) (.int .i32 1) se ns (w.setCell ⟨b, 2, none⟩ (.int .i32 1)) bt bl ns.length w') :=
    fillC_any B p b v _ _ se x4 x5 ns w0 _ hB hBp hpb (by simpa using hs) hl hL hT hN (h0.setCell hB _) hB0 hP hA
  have h1 := hb.cell 1 (v := .int .u32 0) rfl
  have h2 := hb.cell 2 (v := .int .i32 0) rfl
  have f2 := hb.fz 2
  have a1 := hA.cell 1 (v := .int .u32 0) rfl
  have hload := run_call_load (P := Tryd.prog) Tryd.func75 (by kernel_rfl) (by kernel_rfl) (by kernel_rfl) .u32 (by kernel_rfl) a1
  have hnot : ∀ (x : Bool) (w : World), (Op.unary .not (.bool x)).run Tryd.prog w = .ok (.bool (!x)) w := fun _ _ => rfl
  clear hA hP hp hb hN h0 hL hT
  go_enter_defers Tryd.func68, Tryd.ntmps68
  go_wp2_with (first | (go_at_call 76; refine (lock_free ⟨b, 2, none⟩ _ (by go_simp) (by go_simp)).mono ?_; rintro e w' ⟨rfl, rfl⟩) | (go_at_call 55; refine HC.out.mono ?_; rintro e w' ⟨rfl, bt, bl, hF⟩) | (go_at_call 67; go_in))
  have i1 := hF.idx.cell 1 (v := .int .u32 0) rfl
  have j1 := hF.idx.fz 1
  have i2 := (hF.idx.drew.set 1 (.int .u32 1)).cell 2 (v := .int .i32 1) rfl
  have j2 := (hF.idx.drew.set 1 (.int .u32 1)).fz 2
  have HD := fill_done hB hpb hF
  refine leaves_cons (f := 78) (args := #[.pointer (some ⟨b, 1, none⟩), .bool true]) (by simp) (by simp [go_sem]) ?_
  refine (store_deferred ⟨b, 1, none⟩ (.int .u32 0) .returning _ i1 j1).mono ?_
  rintro e u' w'' ⟨rfl, rfl, rfl⟩
  refine leaves_cons (f := 77) (args := #[.pointer (some ⟨b, 2, none⟩)]) (by simp [settle]) (by simp [go_sem]) ?_
  refine (unlock_deferred ⟨b, 2, none⟩ _ _ i2 j2).mono ?_
  rintro e u' w'' ⟨rfl, rfl, rfl⟩
  simp [Leaves, settle, results, Tryd.results68]
  exact ⟨bt, bl, HD⟩
end Go.Proofs.YtljpbkkofalinaaDoor.Wt
