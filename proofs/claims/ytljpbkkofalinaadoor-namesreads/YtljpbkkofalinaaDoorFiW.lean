/- The walk of the function that fills the index of a table. -/
import Derived.Test.YtljpbkkofalinaaDoorFi
namespace Go.Proofs.YtljpbkkofalinaaDoor.Wt
open Go.ChangeShapes Go.WideShapes Go.ChangeAt Go.RowKit Go.Maps
open Go.Proofs.YtljpbkkofalinaaDoor.Pl
set_option linter.unusedVariables false
theorem lab_at {ns : List Nm} {n k : Nat} (h : labsTo ns n = true) (hk : k < n) : (Lit.int .i64 (nm ns k).2).wf = true := by
  simp only [labsTo, List.all_eq_true, List.mem_range] at h
  have := h k hk
  simp [labB] at this
  exact WalkArith.wf_i64 (by omega)
theorem text_at {ns : List Nm} {n k : Nat} (h : textsTo ns n = true) (hk : k < n) : (nm ns k).1.size ≤ 12 := by
  simp only [textsTo, List.all_eq_true, List.mem_range] at h
  have := h k hk
  simp [textB] at this
  omega
theorem fillC_some (B p b a off cap : Nat) (d st se x4 x5 : Value) (ns : List Nm) (w : World) (hB : B ≤ b) (hBp : B ≤ p) (hpb : p ≠ b) (hs : B ≤ w.heap.size) (hl : ns.length ≤ 100)
    (hL : labsTo ns ns.length = true) (hT : textsTo ns ns.length = true) (ha : a < B)
    (hc : ∀ j, j < ns.length → w.cell? ⟨a, off + j * 2, none⟩ = some (.string (nm ns j).1) ∧ w.cell? ⟨a, off + j * 2 + 1, none⟩ = some (.int .i64 (nm ns j).2))
    (hp : Blk w p #[.pointer (some ⟨b, 0, none⟩)] 59) (hb : Blk w b #[.slice (some ⟨a, off, none⟩) ns.length cap, d, st, se, x4, x5] 83) :
    Calls Tryd.prog 55 #[.pointer (some ⟨p, 0, none⟩)] w fun e w' => e = .returned (.tuple #[]) ∧ ∃ bt bl, Fill B p b (.slice (some ⟨a, off, none⟩) ns.length cap) d st se ns w bt bl ns.length w' := by
  have HS : Hid (Fill B p b (.slice (some ⟨a, off, none⟩) ns.length cap) d st se ns w w.heap.size (w.heap.size + 1) 0 ((((w.setCell ⟨b, 4, none⟩ (.map (some w.heap.size))).setCell ⟨b, 5, none⟩ (.map (some (w.heap.size + 1)))).alloc (.map #[] 0)).alloc (.map #[] 0)).drew.drew) := fill_start hB hpb hp hb hs
  have HC : Hid (∀ j, j < ns.length → w.cell? ⟨a, off + j * 2, none⟩ = some (.string (nm ns j).1) ∧ w.cell? ⟨a, off + j * 2 + 1, none⟩ = some (.int .i64 (nm ns j).2)) := hc
  have HL : Hid (∀ k, k < ns.length → (Lit.int .i64 (nm ns k).2).wf = true) := fun k hk => lab_at hL hk
  have HT : Hid (∀ k, k < ns.length → (nm ns k).1.size ≤ 12) := fun k hk => text_at hT hk
  have c0 := hp.cell 0 (v := .pointer (some ⟨b, 0, none⟩)) rfl
  have c1 := hb.cell 0 (v := .slice (some ⟨a, off, none⟩) ns.length cap) rfl
  have c4 := hb.cell 4 (v := x4) rfl
  have c5 := hb.cell 5 (v := x5) rfl
  have f4 := hb.fz 4
  have f5 := hb.fz 5
  have hbl := hb.lt
  have hpl := hp.lt
  clear hc hL hT hp hb
  generalize hn : ns.length = n at *
  clear hn
  have hm1 := fun m w => run_makeMap_hint (P := Tryd.prog) Tryd.underlying80 m w
  have hm2 := fun m w => run_makeMap_hint (P := Tryd.prog) Tryd.underlying81 m w
  go_enter Tryd.func55, Tryd.ntmps55
  go_wp2
  go_region
  go_wp2
  go_region
  go_wp2
  clear c0 c1 c4 c5 f4 f5
  go_loopw [26] (fun i wr => ∃ bt bl k : Nat, k ≤ n ∧ i = .int .i64 k ∧ Hid (Fill B p b (.slice (some ⟨a, off, none⟩) n cap) d st se ns w bt bl k wr)) (fun i _ => n - (intOf i).toNat)
  case atStart => exact ⟨_, _, 0, Nat.zero_le _, rfl, HS⟩
  case round =>
    clear HS
    obtain ⟨bt, bl, k, hk, rfl, HF⟩ := hrel
    by_cases hlt : k < n
    · have hlt' : (k : Int) < (n : Int) := by omega
      have hF := HF.out
      have s0 := (hF.bel.cell (p := ⟨a, off + k * 2, none⟩) ha).trans (HC.out k hlt).1
      have s1 := (hF.bel.cell (p := ⟨a, off + k * 2 + 1, none⟩) ha).trans (HC.out k hlt).2
      have hTk := HT.out k hlt
      have hLk := HL.out k hlt
      obtain ⟨w1, r1, t1, g1⟩ := OwnT.next (w := (wr.alloc (.cells #[.string (nm ns k).1, .int .i64 (nm ns k).2] 36)).drew) (ns := ns) (World.ownsMap.drew (World.ownsMap.alloc hF.txt _)) (by omega) (by unfold maxLen; omega)
      have hlk : OwnL w1 bl k (lMap ns k) := World.ownsMap.kept (World.ownsMap.drew (World.ownsMap.alloc hF.lab _)) g1 (by simpa using fun e : bl = bt => hF.apart e.symm)
      obtain ⟨w2, r2, l2, g2⟩ := OwnL.next (w := w1.drew) (ns := ns) (World.ownsMap.drew hlk) (by omega) hLk
      have HN : Hid (Fill B p b (.slice (some ⟨a, off, none⟩) n cap) d st se ns w bt bl (k + 1) w2) := fill_step hF _ g1 g2 t1 l2
      have n1 := map_ne_blk hF.idx hF.txt
      have n3 := map_ne_blk hF.var hF.txt
      have nq : wr.heap.size ≠ bt := by have := World.ownsMap.lt hF.txt; omega
      have v0 := hF.var.cell 0 (v := .pointer (some ⟨b, 0, none⟩)) rfl
      have i4 := hF.idx.cell 4 (v := .map (some bt)) rfl
      have v1 := (((hF.var.alloc (.cells #[.string (nm ns k).1, .int .i64 (nm ns k).2] 36)).drew).grown g1 (by simpa using n3)).cell 0 (v := .pointer (some ⟨b, 0, none⟩)) rfl
      have i5 := (((hF.idx.alloc (.cells #[.string (nm ns k).1, .int .i64 (nm ns k).2] 36)).drew).grown g1 (by simpa using n1)).cell 5 (v := .map (some bl)) rfl
      have q1 := ((Blk.made wr #[.string (nm ns k).1, .int .i64 (nm ns k).2] 36).drew.grown g1 (by simpa using nq)).cell 1 (v := .int .i64 (nm ns k).2) rfl
      have hvl := hF.var.lt
      have hil := hF.idx.lt
      clear hF HF t1 g1 hlk l2 g2 n1 n3 nq hTk hLk
      generalize (nm ns k).1 = x at s0 r1
      generalize (nm ns k).2 = y at s1 r1 r2 q1
      go_wp2
      go_region
      go_wp2
      go_region
      go_wp2
      go_roundw
      case rel => exact ⟨bt, bl, k + 1, by omega, by go_num, HN⟩
      case measure => simp [intOf]; omega
    · have hke : k = n := by omega
      have HQ : Hid (Fill B p b (.slice (some ⟨a, off, none⟩) n cap) d st se ns w bt bl n wr) := by have h := HF; rw [hke] at h; exact h
      have hlt' : ¬ (k : Int) < (n : Int) := by omega
      clear hke HF
      go_wp2
      go_end0
      exact ⟨rfl, bt, bl, HQ.out⟩
theorem fillC_none (B p b cap : Nat) (a : Option Addr) (d st se x4 x5 : Value) (w : World) (hB : B ≤ b) (hBp : B ≤ p) (hpb : p ≠ b) (hs : B ≤ w.heap.size)
    (hp : Blk w p #[.pointer (some ⟨b, 0, none⟩)] 59) (hb : Blk w b #[.slice a 0 cap, d, st, se, x4, x5] 83) :
    Calls Tryd.prog 55 #[.pointer (some ⟨p, 0, none⟩)] w fun e w' => e = .returned (.tuple #[]) ∧ ∃ bt bl, Fill B p b (.slice a 0 cap) d st se [] w bt bl 0 w' := by
  have HS : Hid (Fill B p b (.slice a 0 cap) d st se [] w w.heap.size (w.heap.size + 1) 0 ((((w.setCell ⟨b, 4, none⟩ (.map (some w.heap.size))).setCell ⟨b, 5, none⟩ (.map (some (w.heap.size + 1)))).alloc (.map #[] 0)).alloc (.map #[] 0)).drew.drew) := fill_start hB hpb hp hb hs
  have c0 := hp.cell 0 (v := .pointer (some ⟨b, 0, none⟩)) rfl
  have c1 := hb.cell 0 (v := .slice a 0 cap) rfl
  have c4 := hb.cell 4 (v := x4) rfl
  have c5 := hb.cell 5 (v := x5) rfl
  have f4 := hb.fz 4
  have f5 := hb.fz 5
  have hbl := hb.lt
  have hpl := hp.lt
  clear hp hb
  have hm1 := fun m w => run_makeMap_hint (P := Tryd.prog) Tryd.underlying80 m w
  have hm2 := fun m w => run_makeMap_hint (P := Tryd.prog) Tryd.underlying81 m w
  go_enter Tryd.func55, Tryd.ntmps55
  go_wp2
  go_region
  go_wp2
  go_region
  go_wp2
  refine wp_loop_rounds 1 ?_; rw [rounds_succ]
  go_wp2
  go_end0
  exact ⟨rfl, _, _, HS.out⟩
theorem fillC_any (B p b : Nat) (v d st se x4 x5 : Value) (ns : List Nm) (w0 w : World) (hB : B ≤ b) (hBp : B ≤ p) (hpb : p ≠ b) (hs : B ≤ w.heap.size) (hl : ns.length ≤ 100)
    (hL : labsTo ns ns.length = true) (hT : textsTo ns ns.length = true) (hN : Nms w0 v ns) (h0 : Below B w0 w) (hB0 : w0.heap.size ≤ B)
    (hp : Blk w p #[.pointer (some ⟨b, 0, none⟩)] 59) (hb : Blk w b #[v, d, st, se, x4, x5] 83) :
    Calls Tryd.prog 55 #[.pointer (some ⟨p, 0, none⟩)] w fun e w' => e = .returned (.tuple #[]) ∧ ∃ bt bl, Fill B p b v d st se ns w bt bl ns.length w' := by
  by_cases hz : 0 < ns.length
  · obtain ⟨a, off, cap, rfl, hal, hc⟩ := hN.plain hz
    exact fillC_some B p b a off cap d st se x4 x5 ns w hB hBp hpb hs hl hL hT (by omega) (fun j hj => ⟨(h0.cell (p := ⟨a, off + j * 2, none⟩) (by simp; omega)).trans (hc j hj).1, (h0.cell (p := ⟨a, off + j * 2 + 1, none⟩) (by simp; omega)).trans (hc j hj).2⟩) hp hb
  · obtain rfl : ns = [] := List.eq_nil_of_length_eq_zero (by omega)
    obtain ⟨a, cap, rfl⟩ := hN.empty
    exact fillC_none B p b cap a d st se x4 x5 w hB hBp hpb hs hp hb
end Go.Proofs.YtljpbkkofalinaaDoor.Wt
