/- compose.together: which arcs go together, told one by one. -/
import Derived.Test.YthcfkiinjcbajaaFe
import Derived.Test.YthcfkiinjcbajaaAn
import Derived.Shelf.Abstract
import Derived.Laws.EntriesVeiled
import Derived.Deep.DeepCutAuto
namespace Go.Proofs.Ythcfkiinjcbajaa.Wt
open Go.ChangeShapes Go.WideShapes Go.ChangeAt Go.RowKit
open Go.Proofs.Ythcfkiinjcbajaa.Pl
set_option linter.unusedVariables false
set_option linter.unusedSimpArgs false
theorem right_arcF {m : Mc} (hr : faultM m = 0) {q : Nat} (hq : q < m.2.length) : ∀ p ∈ (el m.2 q).2, 0 ≤ p.1 ∧ 0 ≤ p.2.1 ∧ 0 ≤ p.2.2.1 ∧ p.2.2.1 ≤ 1000000000 := fun p hp => by
  have h3 := (right_parts hr).2 (el m.2 q) (el_mem hq)
  simp only [stB, Bool.and_eq_true, List.all_eq_true] at h3
  have h4 := h3.2 p hp
  simp only [arcB, inB, Bool.and_eq_true, decide_eq_true_eq] at h4
  omega
def HeldTr (b : Nat) (x y : Int) (w : World) : Prop := w.cell? ⟨b, 0, none⟩ = some (.int .i64 x) ∧ w.cell? ⟨b, 1, none⟩ = some (.int .i64 y)
theorem HeldTr.below {b n : Nat} {x y : Int} {w w' : World} (h : HeldTr b x y w) (hb : Below n w w') (hn : b < n) : HeldTr b x y w' := ⟨(hb.cell (p := ⟨b, 0, none⟩) hn).trans h.1, (hb.cell (p := ⟨b, 1, none⟩) hn).trans h.2⟩
/-- What is held while hops are told. -/
structure TelP (w wr : World) (E H : Nat) (T : List Hp) (S A B : Nat) (ca cb : Array Value) (t0 t1 f : Int) : Prop where
  tel : TelAt w wr E H T
  bxA : Blk wr S ca 24
  bxB : Blk wr (S + 1) cb 24
  bxT : Blk wr (S + 1 + 1) #[.int .i64 t0, .int .i64 t1, .int .i64 f] 26
  stA : Blk wr A #[.int .i64 0, .int .i64 0, .int .i64 0, .int .i64 t0] 51
  stB : Blk wr B #[.int .i64 0, .int .i64 0, .int .i64 0, .int .i64 t1] 51
  eS : E < S
  hS : H < S
  sA : S ≤ A
  sB : S ≤ B
variable {w wr w' : World} {E H S A B X : Nat} {T T' : List Hp} {ca cb cs : Array Value} {t0 t1 f : Int}
theorem TelP.later (h : TelP w wr E H T S A B ca cb t0 t1 f) (hb : Below wr.heap.size wr w') : TelP w w' E H T S A B ca cb t0 t1 f :=
  ⟨h.tel.later hb, h.bxA.below hb h.bxA.lt, h.bxB.below hb h.bxB.lt, h.bxT.below hb h.bxT.lt, h.stA.below hb h.stA.lt, h.stB.below hb h.stB.lt, h.eS, h.hS, h.sA, h.sB⟩
theorem TelP.alloc (h : TelP w wr E H T S A B ca cb t0 t1 f) (o : Obj) : TelP w (wr.alloc o) E H T S A B ca cb t0 t1 f := h.later ((Below.refl _ _).alloc (Nat.le_refl _) _)
theorem TelP.tell (h : TelP w wr E H T S A B ca cb t0 t1 f) (hT : TelAt w w' E H T') (hK : TelK E H wr w') : TelP w w' E H T' S A B ca cb t0 t1 f := by
  have h1 := h.eS
  have h2 := h.hS
  have h3 := h.sA
  have h4 := h.sB
  exact ⟨hT, hK.2 _ _ _ h.bxA (by omega) (by omega) (by decide), hK.2 _ _ _ h.bxB (by omega) (by omega) (by decide), hK.2 _ _ _ h.bxT (by omega) (by omega) (by decide), hK.2 _ _ _ h.stA (by omega) (by omega) (by decide), hK.2 _ _ _ h.stB (by omega) (by omega) (by decide), h1, h2, h3, h4⟩
theorem TelP.arc (h : TelP w wr E H T S A B ca cb t0 t1 f) (hX : Blk wr X cs 51) (hS : S ≤ X) (hK : TelK E H wr w') : Blk w' X cs 51 := by
  have h1 := h.eS
  have h2 := h.hS
  exact hK.2 _ _ _ hX (by omega) (by omega) (by decide)
theorem TelP.size (h : TelP w wr E H T S A B ca cb t0 t1 f) : S ≤ wr.heap.size := by have := h.bxA.lt; omega
set_option maxRecDepth 100000 in
set_option maxHeartbeats 6400000 in
theorem togetherP_any (w W : World) (va vb : Value) (a b : Mc) (p q : Nat) (f : Int) (E H : Nat) (ha : Mach w va a) (hb : Mach w vb b) (fa : faultM a = 0) (fb : faultM b = 0) (hp : p < a.2.length) (hq : q < b.2.length) (hT : TelAt w W E H []) :
    Calls Try.prog 50 #[va, vb, .agg #[.int .i64 (p : Int), .int .i64 (q : Int), .int .i64 f], .func (.func 51) #[] #[.pointer (some ⟨E, 0, none⟩), .pointer (some ⟨H, 0, none⟩)]] W fun e W' => e = .returned (.tuple #[]) ∧ TelAt w W' E H (expT a b ((p : Int), (q : Int), f)) := by
  have HRA := hidP (right_arcF fa hp)
  have HRB := hidP (right_arcF fb hq)
  have hl1 := (right_states fa p hp).2.1
  have hl2 := (right_states fb q hq).2.1
  have n60 := (right_size (z := a.1) (l := a.2) fa).1
  have m60 := (right_size (z := b.1) (l := b.2) fb).1
  have hEx : expT a b ((p : Int), (q : Int), f) = preL (el a.2 p).2 (el b.2 q).2 (q : Int) f (el a.2 p).2.length ++ aloL (el b.2 q).2 (p : Int) f (el b.2 q).2.length := expL_pre _ _ _
  rw [hEx]
  clear hEx
  obtain ⟨za, la⟩ := a
  obtain ⟨zb, lb⟩ := b
  obtain ⟨vsa, rfl, hSa⟩ := ha
  obtain ⟨vsb, rfl, hSb⟩ := hb
  obtain ⟨aa, capa, rfl, hca⟩ := hSa.get
  obtain ⟨ab, capb, rfl, hcb⟩ := hSb.get
  simp only at hp hq HRA HRB hl1 hl2 n60 m60 hca hcb
  obtain ⟨bA, oA, vA, rfl, hbA, gA0, gA1, gA⟩ := hca p hp
  obtain ⟨bB, oB, vB, rfl, hbB, gB0, gB1, gB⟩ := hcb q hq
  obtain ⟨xa, xc, rfl, hxc⟩ := gA.get
  obtain ⟨ya, yc, rfl, hyc⟩ := gB.get
  have GA := hidP gA1
  have GB := hidP gB1
  have XC := hidP hxc
  have YC := hidP hyc
  clear hSa hSb hca hcb gA0 gB0 gA gB hxc hyc gA1 gB1 fa fb
  simp only
  have p0 : (0 : Int) ≤ (p : Int) := by omega
  have p1 : (p : Int) < (la.length : Int) := by omega
  have q0 : (0 : Int) ≤ (q : Int) := by omega
  have q1 : (q : Int) < (lb.length : Int) := by omega
  generalize (el la p).2 = l at *
  generalize (el lb q).2 = r at *
  obtain ⟨n1, hn1⟩ : ∃ n1, n1 = l.length := ⟨_, rfl⟩
  obtain ⟨n2, hn2⟩ : ∃ n2, n2 = r.length := ⟨_, rfl⟩
  have HN1 := hidP hn1
  have HN2 := hidP hn2
  rw [← hn1] at XC GA hl1 ⊢
  rw [← hn2] at YC GB hl2 ⊢
  clear hn1 hn2
  generalize la.length = na at *
  generalize lb.length = nb at *
  obtain ⟨S, hS⟩ : ∃ S, S = W.heap.size := ⟨_, rfl⟩
  have hA3 : Below W.heap.size W (((W.alloc (.cells #[.int .i64 za, .slice (some ⟨bA, oA, none⟩) na capa] 24)).alloc (.cells #[.int .i64 zb, .slice (some ⟨bB, oB, none⟩) nb capb] 24)).alloc (.cells #[.int .i64 (p : Int), .int .i64 (q : Int), .int .i64 f] 26)) := (((Below.refl _ _).alloc (Nat.le_refl _) _).alloc (by simp) _).alloc (by simp; omega) _
  obtain ⟨s3, k0, k1, k2, hb3⟩ := boxedThree (Below.refl (W.heap.size + 3) (((W.alloc (.cells #[.int .i64 za, .slice (some ⟨bA, oA, none⟩) na capa] 24)).alloc (.cells #[.int .i64 zb, .slice (some ⟨bB, oB, none⟩) nb capb] 24)).alloc (.cells #[.int .i64 (p : Int), .int .i64 (q : Int), .int .i64 f] 26))) rfl
  obtain ⟨W3, hW3⟩ : ∃ W3, W3 = (((W.alloc (.cells #[.int .i64 za, .slice (some ⟨bA, oA, none⟩) na capa] 24)).alloc (.cells #[.int .i64 zb, .slice (some ⟨bB, oB, none⟩) nb capb] 24)).alloc (.cells #[.int .i64 (p : Int), .int .i64 (q : Int), .int .i64 f] 26)) := ⟨_, rfl⟩
  rw [← hW3] at hA3 s3 k0 k1 k2 hb3
  have HW3 := hidP hW3
  have h3s : W3.heap.size = W.heap.size + 3 := by rw [hW3]; simp
  clear hW3
  have T3 := hidP (hT.later hA3)
  have hES : E < S := by rw [hS]; exact hT.err.lt
  have hHS : H < S := by obtain ⟨v, h1, _⟩ := hT.hop; rw [hS]; exact h1.lt
  rw [← hS] at k0 k1 k2 h3s
  have K0 := hidP k0
  have K1 := hidP k1
  have K2 := hidP k2
  have HSW := hidP hS
  have HS0 : HeldTr (S + 1 + 1) (p : Int) (q : Int) W3.drew := ⟨k2.cell 0 rfl, k2.cell 1 rfl⟩
  have H3S := hidP h3s
  clear hA3 hT k0 k1 k2 hb3 s3 hS h3s
  go_enter Try.func50, Try.ntmps50
  go_upto_region 1 with fail
  rw [← HW3.out]
  rw [← HSW.out]
  go_cut [8, 9] (fun s8 s9 wx => ∃ A B, s8 = .pointer (some ⟨A, 0, none⟩) ∧ s9 = .pointer (some ⟨B, 0, none⟩) ∧ Hid (TelP w wx E H [] S A B #[.int .i64 za, .slice (some ⟨bA, oA, none⟩) na capa] #[.int .i64 zb, .slice (some ⟨bB, oB, none⟩) nb capb] (p : Int) (q : Int) f))
  case first =>
    refine region_anyL (HeldTr (S + 1 + 1) (p : Int) (q : Int)) 9 (by kernel_rfl) ?_
    refine anyL_take (i := 0) (v := ?v0_1) at0 (by kernel_rfl) (by kernel_rfl) (by kernel_rfl) (by kernel_rfl) (fun _ _ _ h => h) rfl ?y0_1 HS0 ?r0_1
    case y0_1 => intro wx hx; obtain ⟨h0, h1⟩ := hx; go_simp; try (with_reducible rfl)
    simp only [Act.put, List.setIfInBounds_toArray, List.set_cons_zero, List.set_cons_succ]
    refine anyL_take (i := 1) (v := ?v1_2) (atS at0) (by kernel_rfl) (by kernel_rfl) (by kernel_rfl) (by kernel_rfl) (fun _ _ _ h => h) rfl ?y1_2 HS0 ?r1_2
    case y1_2 => intro wx hx; obtain ⟨h0, h1⟩ := hx; go_simp; try (with_reducible rfl)
    simp only [Act.put, List.setIfInBounds_toArray, List.set_cons_zero, List.set_cons_succ]
    refine anyL_take (i := 2) (v := ?v2_3) (atS (atS at0)) (by kernel_rfl) (by kernel_rfl) (by kernel_rfl) (by kernel_rfl) (fun _ _ _ h => h) rfl ?y2_3 HS0 ?r2_3
    case y2_3 => intro wx hx; obtain ⟨h0, h1⟩ := hx; go_simp; try (with_reducible rfl)
    simp only [Act.put, List.setIfInBounds_toArray, List.set_cons_zero, List.set_cons_succ]
    refine anyL_take (i := 3) (v := ?v3_4) (atS (atS (atS at0))) (by kernel_rfl) (by kernel_rfl) (by kernel_rfl) (by kernel_rfl) (fun _ _ _ h => h) rfl ?y3_4 HS0 ?r3_4
    case y3_4 => intro wx hx; obtain ⟨h0, h1⟩ := hx; go_simp; try (with_reducible rfl)
    simp only [Act.put, List.setIfInBounds_toArray, List.set_cons_zero, List.set_cons_succ]
    refine anyL_take (i := 4) (v := ?v4_5) (atS (atS (atS (atS at0)))) (by kernel_rfl) (by kernel_rfl) (by kernel_rfl) (by kernel_rfl) (fun _ _ _ h => h) rfl ?y4_5 HS0 ?r4_5
    case y4_5 => intro wx hx; obtain ⟨h0, h1⟩ := hx; go_simp; try (with_reducible rfl)
    simp only [Act.put, List.setIfInBounds_toArray, List.set_cons_zero, List.set_cons_succ]
    refine anyL_take (i := 5) (v := ?v5_6) (atS (atS (atS (atS (atS at0))))) (by kernel_rfl) (by kernel_rfl) (by kernel_rfl) (by kernel_rfl) (fun _ _ _ h => h) rfl ?y5_6 HS0 ?r5_6
    case y5_6 => intro wx hx; obtain ⟨h0, h1⟩ := hx; go_simp; try (with_reducible rfl)
    simp only [Act.put, List.setIfInBounds_toArray, List.set_cons_zero, List.set_cons_succ]
    have h3d : S + 1 + 1 < W3.drew.heap.size := by show _ < W3.heap.size; rw [H3S.out]; omega
    have HS1 : HeldTr (S + 1 + 1) (p : Int) (q : Int) (W3.drew.alloc (.cells #[.int .i64 0, .int .i64 0, .int .i64 0, .int .i64 0] 51)) := HS0.below (Below.alloc (Below.refl _ _) (Nat.le_refl _) _) h3d
    have HS2 : HeldTr (S + 1 + 1) (p : Int) (q : Int) ((W3.drew.alloc (.cells #[.int .i64 0, .int .i64 0, .int .i64 0, .int .i64 0] 51)).alloc (.cells #[.int .i64 0, .int .i64 0, .int .i64 0, .int .i64 0] 51)) := HS1.below (Below.alloc (Below.refl _ _) (Nat.le_refl _) _) (by rw [World.size_alloc]; omega)
    have hK1 : Blk (((W3.alloc (.cells #[.int .i64 0, .int .i64 0, .int .i64 0, .int .i64 0] 51)).alloc (.cells #[.int .i64 0, .int .i64 0, .int .i64 0, .int .i64 0] 51)).drew) W3.heap.size #[.int .i64 0, .int .i64 0, .int .i64 0, .int .i64 0] 51 := ((Blk.made W3 _ _).alloc _).drew
    have hK2 : Blk (((W3.alloc (.cells #[.int .i64 0, .int .i64 0, .int .i64 0, .int .i64 0] 51)).alloc (.cells #[.int .i64 0, .int .i64 0, .int .i64 0, .int .i64 0] 51)).drew) (W3.heap.size + 1) #[.int .i64 0, .int .i64 0, .int .i64 0, .int .i64 0] 51 := by have h9 := Blk.made (W3.alloc (.cells #[.int .i64 0, .int .i64 0, .int .i64 0, .int .i64 0] 51)) #[.int .i64 0, .int .i64 0, .int .i64 0, .int .i64 0] 51; rw [World.size_alloc] at h9; exact h9.drew
    have hB5 : Below W3.heap.size W3 (((W3.alloc (.cells #[.int .i64 0, .int .i64 0, .int .i64 0, .int .i64 0] 51)).alloc (.cells #[.int .i64 0, .int .i64 0, .int .i64 0, .int .i64 0] 51)).drew) := (((Below.refl _ _).alloc (Nat.le_refl _) _).alloc (by simp) _).drew
    have HS5 : HeldTr (S + 1 + 1) (p : Int) (q : Int) (((W3.alloc (.cells #[.int .i64 0, .int .i64 0, .int .i64 0, .int .i64 0] 51)).alloc (.cells #[.int .i64 0, .int .i64 0, .int .i64 0, .int .i64 0] 51)).drew) := HS2
    refine anyL_br (rs := [6, 7]) (by kernel_rfl) (by simp) (List.forall_mem_cons.2 ⟨⟨_, (atS (atS (atS (atS (atS (atS at0)))))), rfl, fun K hK => ?_⟩, List.forall_mem_cons.2 ⟨⟨_, (atS (atS (atS (atS (atS (atS (atS at0))))))), rfl, fun K hK => ?_⟩, fun _ h => absurd h (by simp)⟩⟩)
    · go_simp
      refine hK _ _ (.inr HS1) ?_
      try simp only [Act.put, List.setIfInBounds_toArray, List.set_cons_zero, List.set_cons_succ]
      refine anyL_one (i := 7) (atS (atS (atS (atS (atS (atS (atS at0))))))) (by kernel_rfl) rfl (fun K hK => ?_)
      go_simp
      refine hK _ _ (.inr HS2) ?_
      try simp only [Act.put, List.setIfInBounds_toArray, List.set_cons_zero, List.set_cons_succ]
      clear HS0 HS1 HS2
      refine anyL_one (i := 8) (atS (atS (atS (atS (atS (atS (atS (atS at0)))))))) (by kernel_rfl) rfl (fun K hK => ?_)
      generalize ((W3.alloc (.cells #[.int .i64 0, .int .i64 0, .int .i64 0, .int .i64 0] 51)).alloc (.cells #[.int .i64 0, .int .i64 0, .int .i64 0, .int .i64 0] 51)).drew = W5 at *
      have a0 := hK1.cell 0 (v := .int .i64 0) rfl
      have a1 := hK1.cell 1 (v := .int .i64 0) rfl
      have a2 := hK1.cell 2 (v := .int .i64 0) rfl
      have a3 := hK1.cell 3 (v := .int .i64 0) rfl
      have f0 := hK1.fz 0
      have f1 := hK1.fz 1
      have f2 := hK1.fz 2
      have f3 := hK1.fz 3
      have J1 := hidP ((((hK1.set 0 (.int .i64 0)).set 1 (.int .i64 0)).set 2 (.int .i64 0)).set 3 (.int .i64 (p : Int)))
      have J2 := hidP ((((hK2.setO ⟨W3.heap.size, 0, none⟩ (.int .i64 0) (by simp)).setO ⟨W3.heap.size, 1, none⟩ (.int .i64 0) (by simp)).setO ⟨W3.heap.size, 2, none⟩ (.int .i64 0) (by simp)).setO ⟨W3.heap.size, 3, none⟩ (.int .i64 (p : Int)) (by simp))
      have J5 := hidP ((((hB5.setCell (p := ⟨W3.heap.size, 0, none⟩) (by simp) (.int .i64 0)).setCell (p := ⟨W3.heap.size, 1, none⟩) (by simp) (.int .i64 0)).setCell (p := ⟨W3.heap.size, 2, none⟩) (by simp) (.int .i64 0)).setCell (p := ⟨W3.heap.size, 3, none⟩) (by simp) (.int .i64 (p : Int)))
      have J6 := hidP (HS5.below (n := W3.heap.size) ((((Below.refl _ _).setCell (p := ⟨W3.heap.size, 0, none⟩) (by simp) (.int .i64 0)).setCell (p := ⟨W3.heap.size, 1, none⟩) (by simp) (.int .i64 0)).setCell (p := ⟨W3.heap.size, 2, none⟩) (by simp) (.int .i64 0) |>.setCell (p := ⟨W3.heap.size, 3, none⟩) (by simp) (.int .i64 (p : Int))) h3d)
      clear hK1 hK2 hB5 HS5
      go_simp
      generalize (((W5.setCell ⟨W3.heap.size, 0, none⟩ (.int .i64 0)).setCell ⟨W3.heap.size, 1, none⟩ (.int .i64 0)).setCell ⟨W3.heap.size, 2, none⟩ (.int .i64 0)).setCell ⟨W3.heap.size, 3, none⟩ (.int .i64 (p : Int)) = W6 at *
      refine hK _ _ (.inr J6.out) ?_
      try simp only [Act.put, List.setIfInBounds_toArray, List.set_cons_zero, List.set_cons_succ]
      clear a0 a1 a2 a3 f0 f1 f2 f3
      refine anyL_one (i := 9) (atS (atS (atS (atS (atS (atS (atS (atS (atS at0))))))))) (by kernel_rfl) rfl (fun K hK => ?_)
      have a0 := J2.out.cell 0 (v := .int .i64 0) rfl
      have a1 := J2.out.cell 1 (v := .int .i64 0) rfl
      have a2 := J2.out.cell 2 (v := .int .i64 0) rfl
      have a3 := J2.out.cell 3 (v := .int .i64 0) rfl
      have f0 := J2.out.fz 0
      have f1 := J2.out.fz 1
      have f2 := J2.out.fz 2
      have f3 := J2.out.fz 3
      have L1 := hidP ((((J2.out.set 0 (.int .i64 0)).set 1 (.int .i64 0)).set 2 (.int .i64 0)).set 3 (.int .i64 (q : Int)))
      have L2 := hidP ((((J1.out.setO ⟨W3.heap.size + 1, 0, none⟩ (.int .i64 0) (by simp)).setO ⟨W3.heap.size + 1, 1, none⟩ (.int .i64 0) (by simp)).setO ⟨W3.heap.size + 1, 2, none⟩ (.int .i64 0) (by simp)).setO ⟨W3.heap.size + 1, 3, none⟩ (.int .i64 (q : Int)) (by simp))
      have L5 := hidP ((((J5.out.setCell (p := ⟨W3.heap.size + 1, 0, none⟩) (by simp) (.int .i64 0)).setCell (p := ⟨W3.heap.size + 1, 1, none⟩) (by simp) (.int .i64 0)).setCell (p := ⟨W3.heap.size + 1, 2, none⟩) (by simp) (.int .i64 0)).setCell (p := ⟨W3.heap.size + 1, 3, none⟩) (by simp) (.int .i64 (q : Int)))
      go_simp
      generalize (((W6.setCell ⟨W3.heap.size + 1, 0, none⟩ (.int .i64 0)).setCell ⟨W3.heap.size + 1, 1, none⟩ (.int .i64 0)).setCell ⟨W3.heap.size + 1, 2, none⟩ (.int .i64 0)).setCell ⟨W3.heap.size + 1, 3, none⟩ (.int .i64 (q : Int)) = W7 at *
      refine hK _ _ (.inl rfl) (anyL_done (by kernel_rfl) (NoPanic.normal ?_))
      try simp only [Act.put, List.setIfInBounds_toArray, List.set_cons_zero, List.set_cons_succ]
      clear a0 a1 a2 a3 f0 f1 f2 f3
      go_wp2
      go_meet
      case rel =>
        have h9 := H3S.out
        exact ⟨W3.heap.size, W3.heap.size + 1, rfl, rfl, T3.out.later L5.out, K0.out.below L5.out K0.out.lt, K1.out.below L5.out K1.out.lt, K2.out.below L5.out K2.out.lt, L2.out, L1.out, hES, hHS, by omega, by omega⟩
    · go_simp
      refine hK _ _ (.inr HS1) ?_
      try simp only [Act.put, List.setIfInBounds_toArray, List.set_cons_zero, List.set_cons_succ]
      refine anyL_one (i := 6) (atS (atS (atS (atS (atS (atS at0)))))) (by kernel_rfl) rfl (fun K hK => ?_)
      go_simp
      refine hK _ _ (.inr HS2) ?_
      try simp only [Act.put, List.setIfInBounds_toArray, List.set_cons_zero, List.set_cons_succ]
      clear HS0 HS1 HS2
      refine anyL_one (i := 8) (atS (atS (atS (atS (atS (atS (atS (atS at0)))))))) (by kernel_rfl) rfl (fun K hK => ?_)
      generalize ((W3.alloc (.cells #[.int .i64 0, .int .i64 0, .int .i64 0, .int .i64 0] 51)).alloc (.cells #[.int .i64 0, .int .i64 0, .int .i64 0, .int .i64 0] 51)).drew = W5 at *
      have a0 := hK2.cell 0 (v := .int .i64 0) rfl
      have a1 := hK2.cell 1 (v := .int .i64 0) rfl
      have a2 := hK2.cell 2 (v := .int .i64 0) rfl
      have a3 := hK2.cell 3 (v := .int .i64 0) rfl
      have f0 := hK2.fz 0
      have f1 := hK2.fz 1
      have f2 := hK2.fz 2
      have f3 := hK2.fz 3
      have J1 := hidP ((((hK2.set 0 (.int .i64 0)).set 1 (.int .i64 0)).set 2 (.int .i64 0)).set 3 (.int .i64 (p : Int)))
      have J2 := hidP ((((hK1.setO ⟨W3.heap.size + 1, 0, none⟩ (.int .i64 0) (by simp)).setO ⟨W3.heap.size + 1, 1, none⟩ (.int .i64 0) (by simp)).setO ⟨W3.heap.size + 1, 2, none⟩ (.int .i64 0) (by simp)).setO ⟨W3.heap.size + 1, 3, none⟩ (.int .i64 (p : Int)) (by simp))
      have J5 := hidP ((((hB5.setCell (p := ⟨W3.heap.size + 1, 0, none⟩) (by simp) (.int .i64 0)).setCell (p := ⟨W3.heap.size + 1, 1, none⟩) (by simp) (.int .i64 0)).setCell (p := ⟨W3.heap.size + 1, 2, none⟩) (by simp) (.int .i64 0)).setCell (p := ⟨W3.heap.size + 1, 3, none⟩) (by simp) (.int .i64 (p : Int)))
      have J6 := hidP (HS5.below (n := W3.heap.size) ((((Below.refl _ _).setCell (p := ⟨W3.heap.size + 1, 0, none⟩) (by simp) (.int .i64 0)).setCell (p := ⟨W3.heap.size + 1, 1, none⟩) (by simp) (.int .i64 0)).setCell (p := ⟨W3.heap.size + 1, 2, none⟩) (by simp) (.int .i64 0) |>.setCell (p := ⟨W3.heap.size + 1, 3, none⟩) (by simp) (.int .i64 (p : Int))) h3d)
      clear hK1 hK2 hB5 HS5
      go_simp
      generalize (((W5.setCell ⟨W3.heap.size + 1, 0, none⟩ (.int .i64 0)).setCell ⟨W3.heap.size + 1, 1, none⟩ (.int .i64 0)).setCell ⟨W3.heap.size + 1, 2, none⟩ (.int .i64 0)).setCell ⟨W3.heap.size + 1, 3, none⟩ (.int .i64 (p : Int)) = W6 at *
      refine hK _ _ (.inr J6.out) ?_
      try simp only [Act.put, List.setIfInBounds_toArray, List.set_cons_zero, List.set_cons_succ]
      clear a0 a1 a2 a3 f0 f1 f2 f3
      refine anyL_one (i := 9) (atS (atS (atS (atS (atS (atS (atS (atS (atS at0))))))))) (by kernel_rfl) rfl (fun K hK => ?_)
      have a0 := J2.out.cell 0 (v := .int .i64 0) rfl
      have a1 := J2.out.cell 1 (v := .int .i64 0) rfl
      have a2 := J2.out.cell 2 (v := .int .i64 0) rfl
      have a3 := J2.out.cell 3 (v := .int .i64 0) rfl
      have f0 := J2.out.fz 0
      have f1 := J2.out.fz 1
      have f2 := J2.out.fz 2
      have f3 := J2.out.fz 3
      have L1 := hidP ((((J2.out.set 0 (.int .i64 0)).set 1 (.int .i64 0)).set 2 (.int .i64 0)).set 3 (.int .i64 (q : Int)))
      have L2 := hidP ((((J1.out.setO ⟨W3.heap.size, 0, none⟩ (.int .i64 0) (by simp)).setO ⟨W3.heap.size, 1, none⟩ (.int .i64 0) (by simp)).setO ⟨W3.heap.size, 2, none⟩ (.int .i64 0) (by simp)).setO ⟨W3.heap.size, 3, none⟩ (.int .i64 (q : Int)) (by simp))
      have L5 := hidP ((((J5.out.setCell (p := ⟨W3.heap.size, 0, none⟩) (by simp) (.int .i64 0)).setCell (p := ⟨W3.heap.size, 1, none⟩) (by simp) (.int .i64 0)).setCell (p := ⟨W3.heap.size, 2, none⟩) (by simp) (.int .i64 0)).setCell (p := ⟨W3.heap.size, 3, none⟩) (by simp) (.int .i64 (q : Int)))
      go_simp
      generalize (((W6.setCell ⟨W3.heap.size, 0, none⟩ (.int .i64 0)).setCell ⟨W3.heap.size, 1, none⟩ (.int .i64 0)).setCell ⟨W3.heap.size, 2, none⟩ (.int .i64 0)).setCell ⟨W3.heap.size, 3, none⟩ (.int .i64 (q : Int)) = W7 at *
      refine hK _ _ (.inl rfl) (anyL_done (by kernel_rfl) (NoPanic.normal ?_))
      try simp only [Act.put, List.setIfInBounds_toArray, List.set_cons_zero, List.set_cons_succ]
      clear a0 a1 a2 a3 f0 f1 f2 f3
      go_wp2
      go_meet
      case rel =>
        have h9 := H3S.out
        exact ⟨W3.heap.size + 1, W3.heap.size, rfl, rfl, T3.out.later L5.out, K0.out.below L5.out K0.out.lt, K1.out.below L5.out K1.out.lt, K2.out.below L5.out K2.out.lt, L2.out, L1.out, hES, hHS, by omega, by omega⟩
  case rest =>
    obtain ⟨A, B, rfl, rfl, hG⟩ := hcut
    obtain ⟨w5, hw5⟩ : ∃ w5, w5 = wc := ⟨_, rfl⟩
    subst hw5
    clear HS0 T3 K0 K1 K2
    have c1 := hG.out.bxA.cell 1 (v := .slice (some ⟨bA, oA, none⟩) na capa) rfl
    have c2 := hG.out.bxT.cell 0 (v := .int .i64 (p : Int)) rfl
    have g1 := (hG.out.tel.below.cell (p := ⟨bA, oA + p * 2 + 1, none⟩) hbA).trans GA.out
    go_wp2
    go_loopw [30] (fun i wr => ∃ k : Nat, k ≤ n1 ∧ i = .int .i64 k ∧ Hid (TelP w wr E H (preL l r (q : Int) f k) S A B #[.int .i64 za, .slice (some ⟨bA, oA, none⟩) na capa] #[.int .i64 zb, .slice (some ⟨bB, oB, none⟩) nb capb] (p : Int) (q : Int) f)) (fun i _ => n1 - (intOf i).toNat)
    case atStart => exact ⟨0, Nat.zero_le _, rfl, by rw [preL_zero]; exact hG⟩
    case round =>
      clear hG c1 c2 g1
      obtain ⟨k, hk, rfl, hG⟩ := hrel
      obtain ⟨w6, hw6⟩ : ∃ w6, w6 = wr := ⟨_, rfl⟩
      subst hw6
      by_cases hlt : k < n1
      · obtain ⟨b1, o1, hx, hb1, g0, g1, g2, g3⟩ := XC.out k hlt
        subst hx
        have g0 := (hG.out.tel.below.cell (p := ⟨b1, o1 + k * 4, none⟩) hb1).trans g0
        have g1 := (hG.out.tel.below.cell (p := ⟨b1, o1 + k * 4 + 1, none⟩) hb1).trans g1
        have g2 := (hG.out.tel.below.cell (p := ⟨b1, o1 + k * 4 + 2, none⟩) hb1).trans g2
        have g3 := (hG.out.tel.below.cell (p := ⟨b1, o1 + k * 4 + 3, none⟩) hb1).trans g3
        have k0 : (0 : Int) ≤ (k : Int) := Int.natCast_nonneg _
        have k1 : (k : Int) < (n1 : Int) := by omega
        obtain ⟨hx0, hx1, hx2, hx3⟩ := HRA.out (el l k) (el_mem (by rw [← HN1.out]; exact hlt))
        have HPS := hidP ((preL_succ (r := r) (b := (q : Int)) (f := f) (show k < l.length by rw [← HN1.out]; exact hlt)).trans (by rw [expX_met, ← HN2.out]))
        have HLN := hidP (preL_bound (l := l) (r := r) (b := (q : Int)) (f := f) (i := k) (by rw [← HN1.out]; exact hk) (by rw [← HN1.out]; exact hl1) (by rw [← HN2.out]; exact hl2))
        obtain ⟨x, hxe⟩ : ∃ x, el l k = x := ⟨_, rfl⟩
        rw [hxe] at g0 g1 g2 g3 hx0 hx1 hx2 hx3 HPS
        clear hxe
        obtain ⟨x0, x1, x2, x3⟩ := x
        simp only at g0 g1 g2 g3 hx0 hx1 hx2 hx3
        have hA := hidP (hG.out.alloc (.cells #[.int .i64 x0, .int .i64 x1, .int .i64 x2, .int .i64 x3] 51))
        have hX := hidP (Blk.made w6 #[.int .i64 x0, .int .i64 x1, .int .i64 x2, .int .i64 x3] 51)
        have hXS : S ≤ w6.heap.size := hG.out.size
        have d1 := hA.out.bxB.cell 1 (v := .slice (some ⟨bB, oB, none⟩) nb capb) rfl
        have d2 := hA.out.bxT.cell 1 (v := .int .i64 (q : Int)) rfl
        have e1 := (hA.out.tel.below.cell (p := ⟨bB, oB + q * 2 + 1, none⟩) hbB).trans GB.out
        obtain ⟨X, hXe⟩ : ∃ X, X = w6.heap.size := ⟨_, rfl⟩
        have HXE := hidP hXe
        go_wp2
        rw [← HXE.out]
        rw [← hXe] at hX hXS
        clear hXe
        go_loopw [42] (fun i wr => ∃ j : Nat, j ≤ n2 ∧ i = .int .i64 j ∧ Hid (TelP w wr E H (preL l r (q : Int) f k ++ metL (x0, x1, x2, x3) r f j) S A B #[.int .i64 za, .slice (some ⟨bA, oA, none⟩) na capa] #[.int .i64 zb, .slice (some ⟨bB, oB, none⟩) nb capb] (p : Int) (q : Int) f) ∧ Hid (Blk wr X #[.int .i64 x0, .int .i64 x1, .int .i64 x2, .int .i64 x3] 51)) (fun i _ => n2 - (intOf i).toNat)
        case atStart => exact ⟨0, Nat.zero_le _, rfl, by rw [metL_zero, List.append_nil]; exact hA, hX⟩
        case round =>
          clear hA hX d1 d2 e1 g0 g1 g2 g3 hG
          obtain ⟨j, hj, rfl, hG, hX⟩ := hrel
          obtain ⟨w7, hw7⟩ : ∃ w7, w7 = wr := ⟨_, rfl⟩
          subst hw7
          have r1 := hX.out.cell 1 (v := .int .i64 x1) rfl
          have rf := hG.out.bxT.cell 2 (v := .int .i64 f) rfl
          by_cases hlt2 : j < n2
          · obtain ⟨b2, o2, hy, hb2, g0, g1, g2, g3⟩ := YC.out j hlt2
            subst hy
            have g0 := (hG.out.tel.below.cell (p := ⟨b2, o2 + j * 4, none⟩) hb2).trans g0
            have g1 := (hG.out.tel.below.cell (p := ⟨b2, o2 + j * 4 + 1, none⟩) hb2).trans g1
            have g2 := (hG.out.tel.below.cell (p := ⟨b2, o2 + j * 4 + 2, none⟩) hb2).trans g2
            have g3 := (hG.out.tel.below.cell (p := ⟨b2, o2 + j * 4 + 3, none⟩) hb2).trans g3
            have j0 : (0 : Int) ≤ (j : Int) := Int.natCast_nonneg _
            have j1 : (j : Int) < (n2 : Int) := by omega
            obtain ⟨hy0, hy1, hy2, hy3⟩ := HRB.out (el r j) (el_mem (by rw [← HN2.out]; exact hlt2))
            have HMS := hidP (metL_succ (x := (x0, x1, x2, x3)) (f := f) (show j < r.length by rw [← HN2.out]; exact hlt2))
            have HML := hidP (metL_len (x0, x1, x2, x3) r f j)
            obtain ⟨y, hye⟩ : ∃ y, el r j = y := ⟨_, rfl⟩
            rw [hye] at g0 g1 g2 g3 hy0 hy1 hy2 hy3 HMS
            clear hye
            obtain ⟨y0, y1, y2, y3⟩ := y
            simp only at g0 g1 g2 g3 hy0 hy1 hy2 hy3
            have hA := hidP (hG.out.alloc (.cells #[.int .i64 y0, .int .i64 y1, .int .i64 y2, .int .i64 y3] 51))
            have hXA := hidP (hX.out.alloc (.cells #[.int .i64 y0, .int .i64 y1, .int .i64 y2, .int .i64 y3] 51))
            have r0 := hXA.out.cell 0 (v := .int .i64 x0) rfl
            have r1 := hXA.out.cell 1 (v := .int .i64 x1) rfl
            have r2 := hXA.out.cell 2 (v := .int .i64 x2) rfl
            have r3 := hXA.out.cell 3 (v := .int .i64 x3) rfl
            have rf := hA.out.bxT.cell 2 (v := .int .i64 f) rfl
            have HTL := hidP (tell_any w _ E H _ x0 x1 x2 x3 y0 y1 y2 y3 0 hA.out.tel ⟨hx2, hx3⟩ ⟨hy2, hy3⟩ (by rw [List.length_append]; have := HLN.out; have := HML.out; rw [← HN2.out] at this; omega))
            clear hX hG
            by_cases hm : y0 = x1 ∧ (x1 ≠ 0 ∨ f = 0)
            · have HNX : Hid (preL l r (q : Int) f k ++ metL (x0, x1, x2, x3) r f (j + 1) = (preL l r (q : Int) f k ++ metL (x0, x1, x2, x3) r f j) ++ [(x0, y1, x2 + y2, x3, y3, 0)]) := by
                show _ = _
                rw [HMS.out, if_pos (by obtain ⟨rfl, h9⟩ := hm; simp [metB]; omega), List.append_assoc]
                rfl
              obtain ⟨rfl, h9⟩ := hm
              by_cases hz : y0 = 0
              · subst hz
                obtain rfl : f = 0 := by omega
                clear h9 HMS
                go_wp2_with (first
                  | ((first | go_at_call 51 | go_at_fn 51); (with_reducible refine HTL.out.mono ?_); rintro e w8 ⟨rfl, hT8, hK8⟩; have hB8 := hidP (hA.out.tell hT8 hK8); have hX8 := hidP (hA.out.arc hXA.out hXS hK8); clear hT8 hK8))
                go_roundw
                case rel => exact ⟨j + 1, by omega, by go_num, by rw [HNX.out]; exact hB8, hX8⟩
                case measure => simp [intOf]; omega
              · have hzb : (y0 != 0) = true := by simpa using hz
                clear h9 HMS hz
                go_wp2_with (first
                  | ((first | go_at_call 51 | go_at_fn 51); (with_reducible refine HTL.out.mono ?_); rintro e w8 ⟨rfl, hT8, hK8⟩; have hB8 := hidP (hA.out.tell hT8 hK8); have hX8 := hidP (hA.out.arc hXA.out hXS hK8); clear hT8 hK8))
                go_roundw
                case rel => exact ⟨j + 1, by omega, by go_num, by rw [HNX.out]; exact hB8, hX8⟩
                case measure => simp [intOf]; omega
            · have HNX : Hid (preL l r (q : Int) f k ++ metL (x0, x1, x2, x3) r f (j + 1) = preL l r (q : Int) f k ++ metL (x0, x1, x2, x3) r f j) := by
                show _ = _
                rw [HMS.out, if_neg (by simp [metB]; omega), List.append_nil]
              clear HTL HMS
              by_cases hz : y0 = x1
              · subst hz
                have e0 : y0 = 0 := by omega
                subst e0
                have hfb : (f == 0) = false := by simp; omega
                clear hm
                go_wp2
                go_roundw
                case rel => exact ⟨j + 1, by omega, by go_num, by rw [HNX.out]; exact hA, hXA⟩
                case measure => simp [intOf]; omega
              · have hzb : (y0 == x1) = false := by simpa using hz
                clear hm hz
                go_wp2
                go_roundw
                case rel => exact ⟨j + 1, by omega, by go_num, by rw [HNX.out]; exact hA, hXA⟩
                case measure => simp [intOf]; omega
          · have hjn : j = n2 := by omega
            have hnl : ¬ (j : Int) < (n2 : Int) := by omega
            rw [hjn] at hG
            clear hjn
            have u0 := hX.out.cell 0 (v := .int .i64 x0) rfl
            have u2 := hX.out.cell 2 (v := .int .i64 x2) rfl
            have u3 := hX.out.cell 3 (v := .int .i64 x3) rfl
            have v0 := hG.out.stB.cell 0 (v := .int .i64 0) rfl
            have v1 := hG.out.stB.cell 1 (v := .int .i64 0) rfl
            have v2 := hG.out.stB.cell 2 (v := .int .i64 0) rfl
            have v3 := hG.out.stB.cell 3 (v := .int .i64 (q : Int)) rfl
            have HML := hidP (metL_len (x0, x1, x2, x3) r f n2)
            have HTL := hidP (tell_any w _ E H _ x0 x1 x2 x3 0 0 0 (q : Int) 1 hG.out.tel ⟨hx2, hx3⟩ ⟨by omega, by omega⟩ (by rw [List.length_append]; have := HLN.out; have := HML.out; rw [← HN2.out] at this; omega))
            by_cases hm : x1 = 0 ∧ f ≠ 2
            · have HNX : Hid (preL l r (q : Int) f (k + 1) = (preL l r (q : Int) f k ++ metL (x0, x1, x2, x3) r f n2) ++ [(x0, 0, x2 + 0, x3, (q : Int), 1)]) := by
                show _ = _
                rw [HPS.out, if_pos hm, List.append_assoc]
                simp [hopL]
              obtain ⟨rfl, h9⟩ := hm
              have hfb : (f != 2) = true := by simpa using h9
              clear h9 HPS
              go_wp2_with (first
                | ((first | go_at_call 51 | go_at_fn 51); (with_reducible refine HTL.out.mono ?_); rintro e w8 ⟨rfl, hT8, hK8⟩; have hB8 := hidP (hG.out.tell hT8 hK8); clear hT8 hK8))
              go_roundw
              case rel => exact ⟨k + 1, by omega, by go_num, by rw [HNX.out]; exact hB8⟩
              case measure => simp [intOf]; omega
            · have HNX : Hid (preL l r (q : Int) f (k + 1) = preL l r (q : Int) f k ++ metL (x0, x1, x2, x3) r f n2) := by
                show _ = _
                rw [HPS.out, if_neg hm, List.append_nil]
              clear HTL HPS
              by_cases hz : x1 = 0
              · subst hz
                obtain rfl : f = 2 := by omega
                clear hm
                go_wp2
                go_roundw
                case rel => exact ⟨k + 1, by omega, by go_num, by rw [HNX.out]; exact hG⟩
                case measure => simp [intOf]; omega
              · have hzb : (x1 == 0) = false := by simpa using hz
                clear hm hz
                go_wp2
                go_roundw
                case rel => exact ⟨k + 1, by omega, by go_num, by rw [HNX.out]; exact hG⟩
                case measure => simp [intOf]; omega
      · have hkn : k = n1 := by omega
        have hnl : ¬ (k : Int) < (n1 : Int) := by omega
        rw [hkn] at hG
        clear hkn
        have d1 := hG.out.bxB.cell 1 (v := .slice (some ⟨bB, oB, none⟩) nb capb) rfl
        have d2 := hG.out.bxT.cell 1 (v := .int .i64 (q : Int)) rfl
        have e1 := (hG.out.tel.below.cell (p := ⟨bB, oB + q * 2 + 1, none⟩) hbB).trans GB.out
        have HLN := hidP (preL_bound (l := l) (r := r) (b := (q : Int)) (f := f) (i := n1) (by rw [← HN1.out]; exact Nat.le_refl _) (by rw [← HN1.out]; exact hl1) (by rw [← HN2.out]; exact hl2))
        go_wp2
        go_loopw [87] (fun i wr => ∃ j : Nat, j ≤ n2 ∧ i = .int .i64 j ∧ Hid (TelP w wr E H (preL l r (q : Int) f n1 ++ aloL r (p : Int) f j) S A B #[.int .i64 za, .slice (some ⟨bA, oA, none⟩) na capa] #[.int .i64 zb, .slice (some ⟨bB, oB, none⟩) nb capb] (p : Int) (q : Int) f)) (fun i _ => n2 - (intOf i).toNat)
        case atStart => exact ⟨0, Nat.zero_le _, rfl, by rw [aloL_zero, List.append_nil]; exact hG⟩
        case round =>
          clear hG d1 d2 e1
          obtain ⟨j, hj, rfl, hG⟩ := hrel
          obtain ⟨w7, hw7⟩ : ∃ w7, w7 = wr := ⟨_, rfl⟩
          subst hw7
          by_cases hlt2 : j < n2
          · obtain ⟨b2, o2, hy, hb2, g0, g1, g2, g3⟩ := YC.out j hlt2
            subst hy
            have g0 := (hG.out.tel.below.cell (p := ⟨b2, o2 + j * 4, none⟩) hb2).trans g0
            have g1 := (hG.out.tel.below.cell (p := ⟨b2, o2 + j * 4 + 1, none⟩) hb2).trans g1
            have g2 := (hG.out.tel.below.cell (p := ⟨b2, o2 + j * 4 + 2, none⟩) hb2).trans g2
            have g3 := (hG.out.tel.below.cell (p := ⟨b2, o2 + j * 4 + 3, none⟩) hb2).trans g3
            have j0 : (0 : Int) ≤ (j : Int) := Int.natCast_nonneg _
            have j1 : (j : Int) < (n2 : Int) := by omega
            obtain ⟨hy0, hy1, hy2, hy3⟩ := HRB.out (el r j) (el_mem (by rw [← HN2.out]; exact hlt2))
            have HMS := hidP (aloL_succ (a := (p : Int)) (f := f) (show j < r.length by rw [← HN2.out]; exact hlt2))
            have HML := hidP (aloL_len r (p : Int) f j)
            obtain ⟨y, hye⟩ : ∃ y, el r j = y := ⟨_, rfl⟩
            rw [hye] at g0 g1 g2 g3 hy0 hy1 hy2 hy3 HMS
            clear hye
            obtain ⟨y0, y1, y2, y3⟩ := y
            simp only at g0 g1 g2 g3 hy0 hy1 hy2 hy3
            have hA := hidP (hG.out.alloc (.cells #[.int .i64 y0, .int .i64 y1, .int .i64 y2, .int .i64 y3] 51))
            have rf := hA.out.bxT.cell 2 (v := .int .i64 f) rfl
            have v0 := hA.out.stA.cell 0 (v := .int .i64 0) rfl
            have v1 := hA.out.stA.cell 1 (v := .int .i64 0) rfl
            have v2 := hA.out.stA.cell 2 (v := .int .i64 0) rfl
            have v3 := hA.out.stA.cell 3 (v := .int .i64 (p : Int)) rfl
            have HTL := hidP (tell_any w _ E H _ 0 0 0 (p : Int) y0 y1 y2 y3 2 hA.out.tel ⟨by omega, by omega⟩ ⟨hy2, hy3⟩ (by rw [List.length_append]; have := HLN.out; have := HML.out; rw [← HN2.out] at this; omega))
            clear hG
            by_cases hm : y0 = 0 ∧ f ≠ 1
            · have HNX : Hid (preL l r (q : Int) f n1 ++ aloL r (p : Int) f (j + 1) = (preL l r (q : Int) f n1 ++ aloL r (p : Int) f j) ++ [(0, y1, 0 + y2, (p : Int), y3, 2)]) := by
                show _ = _
                rw [HMS.out, if_pos hm, List.append_assoc]
                simp [hopR]
              obtain ⟨rfl, h9⟩ := hm
              have hfb : (f != 1) = true := by simpa using h9
              clear h9 HMS
              go_wp2_with (first
                | ((first | go_at_call 51 | go_at_fn 51); (with_reducible refine HTL.out.mono ?_); rintro e w8 ⟨rfl, hT8, hK8⟩; have hB8 := hidP (hA.out.tell hT8 hK8); clear hT8 hK8))
              go_roundw
              case rel => exact ⟨j + 1, by omega, by go_num, by rw [HNX.out]; exact hB8⟩
              case measure => simp [intOf]; omega
            · have HNX : Hid (preL l r (q : Int) f n1 ++ aloL r (p : Int) f (j + 1) = preL l r (q : Int) f n1 ++ aloL r (p : Int) f j) := by
                show _ = _
                rw [HMS.out, if_neg hm, List.append_nil]
              clear HTL HMS
              by_cases hz : y0 = 0
              · subst hz
                obtain rfl : f = 1 := by omega
                clear hm
                go_wp2
                go_roundw
                case rel => exact ⟨j + 1, by omega, by go_num, by rw [HNX.out]; exact hA⟩
                case measure => simp [intOf]; omega
              · have hzb : (y0 == 0) = false := by simpa using hz
                clear hm hz
                go_wp2
                go_roundw
                case rel => exact ⟨j + 1, by omega, by go_num, by rw [HNX.out]; exact hA⟩
                case measure => simp [intOf]; omega
          · have hjn : j = n2 := by omega
            have hnl2 : ¬ (j : Int) < (n2 : Int) := by omega
            rw [hjn] at hG
            clear hjn
            go_wp2
            go_end0
            exact ⟨rfl, hG.out.tel⟩
end Go.Proofs.Ythcfkiinjcbajaa.Wt
