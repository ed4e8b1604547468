/- Kinds numbered as arcs lead to them: a table of numbers (no program in sight). -/
import Derived.Test.YtfhjncpakgailaaGreatDoorPav
import Derived.Test.YtfhjncpakgailaaGreatDoorPau
import Derived.Deep.DeepCutAuto
import Derived.Test.YtfhjncpakgailaaGreatDoorPab
import Derived.Laws.MakeOwn
namespace Go.Proofs.YtfhjncpakgailaaGreatDoor.Pl
set_option linter.unusedVariables false
set_option linter.unusedSimpArgs false
structure NbI (n : Nat) (K Ns : List Int) (Lc : List Nat) : Prop where
 len : Ns.length = n
 low : ∀ t ∈ Lc, t < n
 has : ∀ j, j < Lc.length → ∃ κ : Nat, el K (el Lc j) = (κ : Int) ∧ κ < n ∧ el Ns κ = (j : Int)
 no : ∀ κ : Nat, κ < n → (∀ j, j < Lc.length → el K (el Lc j) ≠ (κ : Int)) → el Ns κ = -1
section
variable {n : Nat} {K Ns : List Int} {Lc : List Nat}
theorem NbI.init (n : Nat) (K : List Int) : NbI n K (List.replicate n (-1)) [] := ⟨by simp, fun t ht => absurd ht (by simp), fun j hj => absurd hj (by simp), fun κ hκ _ => by simp [el, hκ]⟩
theorem NbI.cases (h : NbI n K Ns Lc) {t κ : Nat} (hκ : el K t = (κ : Int)) (hn : κ < n) : (∃ j, j < Lc.length ∧ el K (el Lc j) = el K t ∧ el Ns κ = (j : Int)) ∨ ((∀ j, j < Lc.length → el K (el Lc j) ≠ el K t) ∧ el Ns κ = -1) := by
 by_cases e : ∃ j, j < Lc.length ∧ el K (el Lc j) = el K t
 ·obtain ⟨j, hj, hje⟩ := e
  obtain ⟨k', h1, h2, h3⟩ := h.has j hj
  have : k' = κ := by rw [h1, hκ] at hje; omega
  subst this
  exact .inl ⟨j, hj, hje, h3⟩
 ·refine .inr ⟨fun j hj g => e ⟨j, hj, g⟩, h.no κ hn fun j hj g => e ⟨j, hj, by rw [g, hκ]⟩⟩
theorem NbI.new (h : NbI n K Ns Lc) {t κ : Nat} (hκ : el K t = (κ : Int)) (hn : κ < n) (ht : t < n) (hno : ∀ j, j < Lc.length → el K (el Lc j) ≠ el K t) : NbI n K (Ns.set κ (Lc.length : Int)) (Lc ++ [t]) := by
 have hl := h.len
 refine ⟨by rw [List.length_set]; exact hl, fun u hu => ?_, fun j hj => ?_, fun k' hk' hk2 => ?_⟩
 ·rcases List.mem_append.1 hu with g | g
  ·exact h.low u g
  ·rw [List.mem_singleton] at g; rw [g]; exact ht
 ·rw [List.length_append] at hj
  simp at hj
  by_cases e : j < Lc.length
  ·obtain ⟨k', h1, h2, h3⟩ := h.has j e
   refine ⟨k', by rw [el_left e]; exact h1, h2, ?_⟩
   rw [el_setK (by omega), if_neg (fun g => hno j e (by rw [h1, hκ, g]))]
   exact h3
  ·obtain rfl : j = Lc.length := by omega
   exact ⟨κ, by rw [el_last]; exact hκ, hn, by rw [el_setK (by omega), if_pos rfl]⟩
 ·have h1 : κ ≠ k' := fun g => hk2 Lc.length (by simp) (by rw [el_last, hκ, g])
  rw [el_setK (by omega), if_neg h1]
  exact h.no k' hk' fun j hj g => hk2 j (by simp; omega) (by rw [el_left hj]; exact g)
end
end Go.Proofs.YtfhjncpakgailaaGreatDoor.Pl
namespace Go.Proofs.YtfhjncpakgailaaGreatDoor.Wt
open Go.ChangeShapes Go.WideShapes Go.ChangeAt Go.RowKit
open Go.Proofs.YtfhjncpakgailaaGreatDoor.Pl
set_option linter.unusedVariables false
set_option linter.unusedSimpArgs false
structure JnI (wr : World) (base J gn n : Nat) (vk vf : Value) (Ns : List Int) (Lc : List Nat) : Prop where
 jb : Blk wr J #[vk, .slice (some ⟨gn, 0, none⟩) n n, vf] 107
 nb : Blk wr gn (Ns.map (Value.int .i64)).toArray 3
 fs : OwnZ wr base vf Lc
 ne : some gn ≠ vf.ownBlock
 hJ : base ≤ J
 hg : base ≤ gn
def JoK (J : Nat) (w w' : World) : Prop := w.heap.size ≤ w'.heap.size ∧ ∀ k cs t, Blk w k cs t → k ≠ J → t ≠ 3 → Blk w' k cs t
theorem JoK.refl (J : Nat) (w : World) : JoK J w w := ⟨Nat.le_refl _, fun _ _ _ h _ _ => h⟩
theorem JoK.trans {J : Nat} {w w1 w2 : World} (h : JoK J w w1) (k : JoK J w1 w2) : JoK J w w2 := ⟨Nat.le_trans h.1 k.1, fun q cs t hb h1 h2 => k.2 q cs t (h.2 q cs t hb h1 h2) h1 h2⟩
theorem JoK.of {J : Nat} {w w' : World} (h : Below w.heap.size w w') : JoK J w w' := ⟨h.size, fun k cs t hb _ _ => hb.below h hb.lt⟩
theorem JoK.row {J base : Nat} {w w' : World} {e : TypeId} {s : Nat} {v : Value} {n : Nat} {xs : List Value} (hK : JoK J w w') (ho : w.ownsRow base e s v n xs) (he : e ≠ 3) (hb : some J ≠ v.ownBlock) : w'.ownsRow base e s v n xs := by
 refine ⟨ho.1, ?_⟩
 rcases ho.2 with hn | ⟨g, cap, cur, rfl, hbg, hgg, rest⟩
 ·exact .inl hn
 ·exact .inr ⟨g, cap, cur, rfl, hbg, hK.2 g cur e hgg (fun e => hb (by simp [Value.ownBlock, e])) he, rest⟩
theorem JoK.sts {J base : Nat} {w w' : World} {v : Value} {l : List St} {cs : Array Value} (hK : JoK J w w') (hJ : Blk w J cs 107) (h : OwnSts w base v l) : OwnSts w' base v l := by
 obtain ⟨vs, h1, h2, h3⟩ := h
 exact ⟨vs, hK.row h1 (by decide) (own_ne h1 hJ (by decide)), h2, fun j hj => ⟨(h3 j hj).1, hK.row (h3 j hj).2 (by decide) (own_ne (h3 j hj).2 hJ (by decide))⟩⟩
section
variable {wr w' : World} {base J gn n : Nat} {vk vf : Value} {Ns : List Int} {Lc : List Nat}
theorem JnI.later (h : JnI wr base J gn n vk vf Ns Lc) (hb : Below wr.heap.size wr w') : JnI w' base J gn n vk vf Ns Lc := ⟨h.jb.below hb h.jb.lt, h.nb.below hb h.nb.lt, h.fs.later hb, h.ne, h.hJ, h.hg⟩
theorem JnI.setB (h : JnI wr base J gn n vk vf Ns Lc) {b : Nat} {cs : Array Value} {t : TypeId} (hb : Blk wr b cs t) (h1 : 3 ≠ t) (h2 : 107 ≠ t) (o : Nat) (u : Value) : JnI (wr.setCell ⟨b, o, none⟩ u) base J gn n vk vf Ns Lc := by
 have hne : ∀ {k : Nat} {cs' : Array Value} {t' : TypeId}, Blk wr k cs' t' → t' ≠ t → k ≠ b := fun hk ht e => by
  subst e
  unfold Blk at hk hb
  rw [hk] at hb
  simp only [Option.some.injEq, Obj.cells.injEq] at hb
  exact ht hb.2.1
 exact ⟨h.jb.setO _ _ (hne h.jb h2), h.nb.setO _ _ (hne h.nb h1), World.ownsRow.kept h.fs (gSet wr b o u) (.inr (Ne.symm (own_ne h.fs hb h1))), h.ne, h.hJ, h.hg⟩
theorem JnI.jn (h : JnI wr base J gn n vk vf Ns Lc) : J ≠ gn := fun e => by
 have h1 := h.jb
 have h2 := h.nb
 rw [e] at h1
 unfold Blk at h1 h2
 rw [h1] at h2
 exact absurd h2 (by simp)
theorem JnI.setN (h : JnI wr base J gn n vk vf Ns Lc) (κ : Nat) (x : Int) : JnI (wr.setCell ⟨gn, κ, none⟩ (.int .i64 x)) base J gn n vk vf (Ns.set κ x) Lc := by
 refine ⟨h.jb.setO _ _ h.jn, ?_, World.ownsRow.kept h.fs (gSet wr gn κ _) (.inr (Ne.symm h.ne)), h.ne, h.hJ, h.hg⟩
 have h9 := h.nb.set κ (.int .i64 x)
 rw [set_num] at h9
 exact h9
theorem JnI.push (h : JnI wr base J gn n vk vf Ns Lc) (t : Nat) (hl : Lc.length ≤ 1000) (hb : base ≤ wr.heap.size) :
  ∃ a k w', (Builtin.append_ #[25, 25] 25 #[vf, .slice (some ⟨wr.heap.size, 0, none⟩) 1 1]).run Tryz.prog (wr.alloc (.cells #[.int .i64 (t : Int)] 3)) = .ok (.slice a (Lc.length + 1) k) w' ∧ Blk w' J #[vk, .slice (some ⟨gn, 0, none⟩) n n, vf] 107 ∧ JnI (w'.setCell ⟨J, 2, none⟩ (.slice a (Lc.length + 1) k)) base J gn n vk (.slice a (Lc.length + 1) k) Ns (Lc ++ [t]) ∧ JoK J wr (w'.setCell ⟨J, 2, none⟩ (.slice a (Lc.length + 1) k)) ∧ Below base wr (w'.setCell ⟨J, 2, none⟩ (.slice a (Lc.length + 1) k)) := by
 obtain ⟨i1, hi1, hy0, hy1, hy2⟩ := info_parts infoIntZ
 have hA := h.later ((Below.refl wr.heap.size wr).alloc (Nat.le_refl _) (.cells (encZ t).toArray 3))
 have hAb := (Below.refl wr.heap.size wr).alloc (Nat.le_refl _) (.cells (encZ t).toArray 3)
 obtain ⟨v4, w4, r4, ho4, hg4, hn4⟩ := run_append_spot (P := Tryz.prog) (w := wr.alloc (.cells (encZ t).toArray 3)) encZ_len (by decide) encZ_one 25 25 base 3 i1 _ 8 Tryz.underlying25 hi1 hy0 hy1 hy2 rfl _ Lc.length (Lc.flatMap encZ) hA.fs _ [t] (oneRow (enc := encZ) wr t rfl 3) (by simp; unfold maxLen; omega) (by simp; omega) (by simp; omega)
 have hT : OwnZ w4 base v4 (Lc ++ [t]) := by unfold OwnZ; rw [List.length_append, List.flatMap_append]; exact ho4
 obtain ⟨a, k, hv⟩ := own_sl ho4
 have hv' : v4 = .slice a (Lc.length + 1) k := hv
 subst hv'
 have hJ4 : Blk w4 J #[vk, .slice (some ⟨gn, 0, none⟩) n n, vf] 107 := hA.jb.grown hg4 (own_ne hA.fs hA.jb (by decide))
 have hN4 : Blk w4 gn (Ns.map (Value.int .i64)).toArray 3 := hA.nb.grown hg4 hA.ne
 refine ⟨a, k, w4, r4, hJ4, ⟨hJ4.set 2 _, hN4.setO _ _ (Ne.symm h.jn), World.ownsRow.kept hT (gSet w4 J 2 _) (.inr (Ne.symm (own_ne hT hJ4 (by decide)))), ?_, h.hJ, h.hg⟩, ⟨?_, fun q cs t' hq h1 h2 => ?_⟩, ?_⟩
 ·intro e
  rcases hn4 with hn4 | ⟨x, hx, hxs⟩
  ·exact hA.ne (e.trans hn4)
  ·rw [hx] at e
   injection e with e
   have := hA.nb.lt
   omega
 ·have := hg4.size
  simp [World.setCell] at this ⊢
  omega
 ·exact ((hq.alloc _).grown hg4 (own_ne hA.fs (hq.alloc _) (Ne.symm h2))).setO _ _ h1
 ·exact ((hAb.mono hb).grown hg4 (by simp; omega) (own_geK hA.fs)).setCell (p := ⟨J, 2, none⟩) h.hJ _
end
def HeldNv (J : Nat) (vn vf : Value) (w : World) : Prop := w.cell? ⟨J, 1, none⟩ = some vn ∧ w.cell? ⟨J, 2, none⟩ = some vf
def NumJ (K : List Int) (Lc : List Nat) (t jx : Nat) (Lc' : List Nat) : Prop := (jx < Lc.length ∧ el K (el Lc jx) = el K t ∧ Lc' = Lc) ∨ ((∀ j, j < Lc.length → el K (el Lc j) ≠ el K t) ∧ jx = Lc.length ∧ Lc' = Lc ++ [t])
set_option maxRecDepth 100000 in
set_option maxHeartbeats 3200000 in
theorem numJ_any (w0 w : World) (base J gn gk n : Nat) (vf : Value) (K Ns : List Int) (Lc : List Nat) (t : Nat) (h : JnI w base J gn n (.slice (some ⟨gk, 0, none⟩) n n) vf Ns Lc) (hI : NbI n K Ns Lc) (hK : ∀ q, q < n → ∃ κ : Nat, el K q = (κ : Int) ∧ κ < n) (hKl : K.length = n) (hB : Blk w0 gk (K.map (Value.int .i64)).toArray 3) (hb0 : Below w0.heap.size w0 w) (hw0 : w0.heap.size ≤ base) (ht : t < n) (hn : n ≤ 60) (hl : Lc.length ≤ 60) (hbw : base ≤ w.heap.size) :
  Calls Tryz.prog 71 #[.pointer (some ⟨J, 0, none⟩), .int .i64 (t : Int)] w fun e w' => ∃ (jx : Nat) (vf' : Value) (Ns' : List Int) (Lc' : List Nat), e = .returned (.int .i64 (jx : Int)) ∧ NumJ K Lc t jx Lc' ∧ NbI n K Ns' Lc' ∧ JnI w' base J gn n (.slice (some ⟨gk, 0, none⟩) n n) vf' Ns' Lc' ∧ JoK J w w' ∧ Below base w w' := by
 obtain ⟨κ, hκ, hκn⟩ := hK t ht
 have k0 := (hb0.cell (p := ⟨gk, t, none⟩) hB.lt).trans (num_cell hB (j := t) (by omega))
 rw [hκ] at k0
 obtain ⟨af, cf, hvf⟩ := h.fs.sl
 subst hvf
 have j0 := h.jb.cell 0 (v := .slice (some ⟨gk, 0, none⟩) n n) rfl
 have j1 := h.jb.cell 1 (v := .slice (some ⟨gn, 0, none⟩) n n) rfl
 have n0 := num_cell h.nb (j := κ) (by rw [hI.len]; exact hκn)
 have t0 : (0 : Int) ≤ (t : Int) := Int.natCast_nonneg _
 have t1 : (t : Int) < (n : Int) := by omega
 have c0 : (0 : Int) ≤ (κ : Int) := Int.natCast_nonneg _
 have c1 : (κ : Int) < (n : Int) := by omega
 have H := hidP h
 rcases hI.cases hκ hκn with ⟨j, hj, hje, hns⟩ | ⟨hno, hns⟩
 ·have HNU : Hid (NumJ K Lc t j Lc) := .inl ⟨hj, hje, rfl⟩
  have HI := hidP hI
  rw [hns] at n0
  have hne : ((j : Int) == -1) = false := by simp
  clear h hI hK hB hb0 hns hje hκ
  go_enter Tryz.func71, Tryz.ntmps71
  go_wp2
  go_ret
  first | exact ⟨j, _, Ns, Lc, rfl, HNU.out, HI.out, H.out, JoK.refl _ _, Below.refl _ _⟩ | exact ⟨j, rfl, _, Ns, Lc, HNU.out, HI.out, H.out, JoK.refl _ _, Below.refl _ _⟩
 ·have HNU : Hid (NumJ K Lc t Lc.length (Lc ++ [t])) := .inr ⟨hno, rfl, rfl⟩
  have HI := hidP (hI.new hκ hκn ht hno)
  rw [hns] at n0
  have hS := h.setN κ (Lc.length : Int)
  have hsz : (w.drew.setCell ⟨gn, κ, none⟩ (.int .i64 (Lc.length : Int))).heap.size = w.heap.size := by simp [World.setCell]
  have hSd : JnI (w.setCell ⟨gn, κ, none⟩ (.int .i64 (Lc.length : Int))).drew base J gn n (.slice (some ⟨gk, 0, none⟩) n n) (.slice af Lc.length cf) (Ns.set κ (Lc.length : Int)) Lc := hS.later (Below.refl _ _).drew
  have B1 : Below base w (w.setCell ⟨gn, κ, none⟩ (.int .i64 (Lc.length : Int))).drew := ((Below.refl base w).setCell (p := ⟨gn, κ, none⟩) h.hg _).drew
  have K1 : JoK J w (w.setCell ⟨gn, κ, none⟩ (.int .i64 (Lc.length : Int))).drew := ⟨by simp [World.setCell], fun q cs t' hq h1 h2 => by
   refine Blk.setO hq _ _ (fun e => ?_)
   subst e
   have h9 := h.nb
   unfold Blk at h9 hq
   rw [hq] at h9
   simp only [Option.some.injEq, Obj.cells.injEq] at h9
   exact h2 h9.2.1⟩
  have n1 := hSd.nb
  have j2 := h.jb.cell 2 (v := .slice af Lc.length cf) rfl
  have f0 := h.nb.fz κ
  have HS := hidP hSd
  have HB1 := hidP B1
  have HK1 := hidP K1
  clear h hI hK hB hb0 hns hno hS hsz hSd B1 K1 n1
  go_enter Tryz.func71, Tryz.ntmps71
  go_wp2
  have HH : HeldNv J (.slice (some ⟨gn, 0, none⟩) n n) (.slice af Lc.length cf) w.drew := ⟨j1, j2⟩
  have n0d : w.drew.cell? ⟨gn, κ, none⟩ = some (.int .i64 (-1)) := n0
  have f0d : w.drew.frozen? ⟨gn, κ, none⟩ = false := f0
  refine region_anyL (HeldNv J (.slice (some ⟨gn, 0, none⟩) n n) (.slice af Lc.length cf)) 11 (by kernel_rfl) ?_
  refine anyL_tk (i := 0) (v := ?v0_1) aZ0 (by kernel_rfl) ?y0_1 HH ?r0_1
  case y0_1 => intro wx hx; obtain ⟨h0, h1⟩ := hx; go_simp; try (with_reducible rfl)
  simp only [Act.put, List.setIfInBounds_toArray, List.set_cons_zero, List.set_cons_succ]
  refine anyL_tk (i := 1) (v := ?v1_2) aZ1 (by kernel_rfl) ?y1_2 HH ?r1_2
  case y1_2 => intro wx hx; obtain ⟨h0, h1⟩ := hx; go_simp; try (with_reducible rfl)
  simp only [Act.put, List.setIfInBounds_toArray, List.set_cons_zero, List.set_cons_succ]
  refine anyL_tk (i := 2) (v := ?v2_3) aZ2 (by kernel_rfl) ?y2_3 HH ?r2_3
  case y2_3 => intro wx hx; obtain ⟨h0, h1⟩ := hx; go_simp; try (with_reducible rfl)
  simp only [Act.put, List.setIfInBounds_toArray, List.set_cons_zero, List.set_cons_succ]
  refine anyL_tk (i := 3) (v := ?v3_4) aZ3 (by kernel_rfl) ?y3_4 HH ?r3_4
  case y3_4 => intro wx hx; obtain ⟨h0, h1⟩ := hx; go_simp; try (with_reducible rfl)
  simp only [Act.put, List.setIfInBounds_toArray, List.set_cons_zero, List.set_cons_succ]
  refine anyL_tk (i := 4) (v := ?v4_5) aZ4 (by kernel_rfl) ?y4_5 HH ?r4_5
  case y4_5 => intro wx hx; obtain ⟨h0, h1⟩ := hx; go_simp; try (with_reducible rfl)
  simp only [Act.put, List.setIfInBounds_toArray, List.set_cons_zero, List.set_cons_succ]
  refine anyL_tk (i := 5) (v := ?v5_6) aZ5 (by kernel_rfl) ?y5_6 HH ?r5_6
  case y5_6 => intro wx hx; obtain ⟨h0, h1⟩ := hx; go_simp; try (with_reducible rfl)
  simp only [Act.put, List.setIfInBounds_toArray, List.set_cons_zero, List.set_cons_succ]
  refine anyL_tk (i := 6) (v := ?v6_7) aZ6 (by kernel_rfl) ?y6_7 HH ?r6_7
  case y6_7 => intro wx hx; obtain ⟨h0, h1⟩ := hx; go_simp; try (with_reducible rfl)
  simp only [Act.put, List.setIfInBounds_toArray, List.set_cons_zero, List.set_cons_succ]
  refine anyL_tk (i := 7) (v := ?v7_8) aZ7 (by kernel_rfl) ?y7_8 HH ?r7_8
  case y7_8 => intro wx hx; obtain ⟨h0, h1⟩ := hx; go_simp; try (with_reducible rfl)
  simp only [Act.put, List.setIfInBounds_toArray, List.set_cons_zero, List.set_cons_succ]
  refine anyL_tk (i := 8) (v := ?v8_9) aZ8 (by kernel_rfl) ?y8_9 HH ?r8_9
  case y8_9 => intro wx hx; obtain ⟨h0, h1⟩ := hx; go_simp; try (with_reducible rfl)
  simp only [Act.put, List.setIfInBounds_toArray, List.set_cons_zero, List.set_cons_succ]
  refine anyL_tk (i := 9) (v := ?v9_10) aZ9 (by kernel_rfl) ?y9_10 HH ?r9_10
  case y9_10 => intro wx hx; obtain ⟨h0, h1⟩ := hx; go_simp; try (with_reducible rfl)
  simp only [Act.put, List.setIfInBounds_toArray, List.set_cons_zero, List.set_cons_succ]
  refine anyL_tk (i := 10) (v := ?v10_11) aZ10 (by kernel_rfl) ?y10_11 HH ?r10_11
  case y10_11 => intro wx hx; obtain ⟨h0, h1⟩ := hx; go_simp; try (with_reducible rfl)
  simp only [Act.put, List.setIfInBounds_toArray, List.set_cons_zero, List.set_cons_succ]
  refine anyL_one (i := 11) aZ11 (by kernel_rfl) rfl (fun K hK => ?_)
  go_simp
  refine hK _ _ (.inl rfl) (anyL_done (by kernel_rfl) (NoPanic.normal ?_))
  try simp only [Act.put, List.setIfInBounds_toArray, List.set_cons_zero, List.set_cons_succ]
  clear HH n0d f0d j0 j1 j2 n0 f0 k0 H
  generalize (w.setCell ⟨gn, κ, none⟩ (.int .i64 (Lc.length : Int))).drew = w3 at *
  have hbw3 : base ≤ w3.heap.size := Nat.le_trans hbw HB1.out.size
  obtain ⟨a4, c4, w4, r4, hJ4, hI4, hK4, hB4⟩ := HS.out.push t (by omega) hbw3
  have R4 := hidP r4
  have I4 := hidP hI4
  have K4 := hidP (HK1.out.trans hK4)
  have B4 := hidP (HB1.out.trans hB4)
  have s2 := HS.out.jb.cell 2 (v := .slice af Lc.length cf) rfl
  have y2 := hJ4.cell 2 (v := .slice af Lc.length cf) rfl
  have y3 := hJ4.fz 2
  have i1 := hI4.jb.cell 1 (v := .slice (some ⟨gn, 0, none⟩) n n) rfl
  have m0 := num_cell hI4.nb (j := κ) (by rw [List.length_set]; have := HI.out.len; rw [List.length_set] at this; omega)
  rw [el_setK (by have := HI.out.len; rw [List.length_set] at this; omega), if_pos rfl] at m0
  clear r4 hI4 hK4 hB4 HS HK1 HB1 hJ4
  obtain ⟨nL, hnL⟩ : ∃ nL, Lc.length = nL := ⟨_, rfl⟩
  rw [hnL] at R4 I4 s2 y2 m0 i1 HNU HI K4 B4 ⊢
  clear hnL hl
  go_wp2_with (first | (at_builtin; refine wpListAppendRun rfl _ _ 25 rfl rfl rfl R4.out ?_))
  go_ret
  first | exact ⟨nL, _, _, _, rfl, HNU.out, HI.out, I4.out, K4.out, B4.out⟩ | exact ⟨nL, rfl, _, _, _, HNU.out, HI.out, I4.out, K4.out, B4.out⟩
theorem grown_of_below {w w' : World} (hb : Below w.heap.size w w') : w.grownBy w' none := ⟨hb.os, hb.tape, hb.output, hb.size, fun k hk _ => hb.block k hk⟩
theorem own_below {w w' : World} {base : Nat} {e : TypeId} {s : Nat} {v : Value} {n : Nat} {xs : List Value} (h : w.ownsRow base e s v n xs) (hb : Below w.heap.size w w') : w'.ownsRow base e s v n xs :=
 h.kept (grown_of_below hb) (by rcases v.ownBlock with _ | _ <;> simp)
theorem own_mono {w : World} {base base' : Nat} {e : TypeId} {s : Nat} {v : Value} {n : Nat} {xs : List Value} (h : w.ownsRow base e s v n xs) (hb : base' ≤ base) : w.ownsRow base' e s v n xs := by
 refine ⟨h.1, ?_⟩
 rcases h.2 with h2 | ⟨g, cap, cur, hv, hg, h3⟩
 ·exact .inl h2
 ·exact .inr ⟨g, cap, cur, hv, Nat.le_trans hb hg, h3⟩
def Agree (B : Nat) (w w' : World) : Prop := ∀ k, B ≤ k → k < w.heap.size → w'.heap[k]? = w.heap[k]?
theorem Agree.refl (B : Nat) (w : World) : Agree B w w := fun _ _ _ => rfl
theorem agree_set {B : Nat} {w : World} {a : Addr} (ha : a.block < B) (u : Value) : Agree B w (w.setCell a u) := fun k hk _ => Below.heap_setCell w a u k (by omega)
theorem Agree.trans {B : Nat} {w w' w'' : World} (h : Agree B w w') (hs : w.heap.size ≤ w'.heap.size) (k : Agree B w' w'') : Agree B w w'' := fun i hi hl => (k i hi (Nat.lt_of_lt_of_le hl hs)).trans (h i hi hl)
theorem Agree.mono {B B' : Nat} {w w' : World} (h : Agree B w w') (hB : B ≤ B') : Agree B' w w' := fun k hk hl => h k (Nat.le_trans hB hk) hl
theorem agree_below {B : Nat} {w w' : World} (hb : Below w.heap.size w w') : Agree B w w' := fun k _ hl => hb.block k hl
theorem own_agree {w w' : World} {base : Nat} {e : TypeId} {s : Nat} {v : Value} {n : Nat} {xs : List Value} (h : w.ownsRow base e s v n xs) (hg : Agree base w w') : w'.ownsRow base e s v n xs := by
 refine ⟨h.1, ?_⟩
 rcases h.2 with h2 | ⟨g, cap, cur, hv, hb, hh, h3⟩
 ·exact .inl h2
 ·exact .inr ⟨g, cap, cur, hv, hb, (hg g hb (lt_of_block hh)).trans hh, h3⟩
theorem blk_agree {w w' : World} {base b : Nat} {cs : Array Value} {t : TypeId} (h : Blk w b cs t) (hb : base ≤ b) (hg : Agree base w w') : Blk w' b cs t := (hg b hb h.lt).trans h
def MachFrom (B : Nat) (w : World) (v : Value) (m : Mc) : Prop := ∀ w', Agree B w w' → Mach w' v m
theorem MachFrom.mach {B : Nat} {w : World} {v : Value} {m : Mc} (h : MachFrom B w v m) : Mach w v m := h w (Agree.refl _ _)
theorem MachFrom.set {B : Nat} {w : World} {v : Value} {m : Mc} (h : MachFrom B w v m) {a : Addr} (ha : a.block < B) (u : Value) : MachFrom B (w.setCell a u) v m := fun w' hg => h w' ((agree_set ha u).trans (by simp [World.setCell]) hg)
theorem MachFrom.mono {B B' : Nat} {w : World} {v : Value} {m : Mc} (h : MachFrom B' w v m) (hB : B ≤ B') : MachFrom B w v m := fun w' hg => h w' (hg.mono hB)
theorem MachFrom.sl {B : Nat} {w : World} {v : Value} {m : Mc} (h : MachFrom B w v m) : ∃ a c, v = .agg #[.int .i64 m.1, .slice a m.2.length c] := by
 obtain ⟨vs, rfl, hS⟩ := h.mach
 obtain ⟨a, c, rfl⟩ := hS.sl
 exact ⟨a, c, rfl⟩
def resM (r : Int) (m : Mc) : Mc := if r = 0 then m else (0, [])
theorem made_states (n : Nat) : madeCells (Value.cells (.agg #[.int .i64 0, .slice none 0 0])) (n * 2) = ((List.replicate n ((0 : Int), Value.slice none 0 0)).flatMap encS).toArray := by
 apply Array.ext_getElem?
 intro t
 have hz : Value.cells (.agg #[.int .i64 0, .slice none 0 0]) = #[.int .i64 0, .slice none 0 0] := rfl
 by_cases ht : t < n * 2
 ·have h2 := flat_at encS_len (List.replicate n ((0 : Int), Value.slice none 0 0)) (t / 2) (by simp; omega) (t % 2) (by omega)
  have he : t / 2 * 2 + t % 2 = t := by omega
  rw [he] at h2
  simp only [List.getElem?_toArray]
  rw [h2, el_get (by simp; omega), List.getElem_replicate]
  simp only [madeCells, hz, Array.getElem?_map]
  rw [Array.getElem?_eq_getElem (by simpa using ht)]
  have h01 : t % 2 = 0 ∨ t % 2 = 1 := by omega
  rcases h01 with h | h <;> simp [h, encS]
 ·rw [Array.getElem?_eq_none (by simp [size_madeCells]; omega), List.getElem?_toArray, List.getElem?_eq_none (by rw [flat_length encS_len]; simp; omega)]
theorem set_state {vs : List (Int × Value)} {k : Nat} (hk : k < vs.length) (p : Int × Value) : ((vs.flatMap encS).toArray.setIfInBounds (k * 2) (.int .i64 p.1)).setIfInBounds (k * 2 + 1) p.2 = ((vs.set k p).flatMap encS).toArray := by
 apply Array.ext_getElem?
 intro t
 have hl : (vs.flatMap encS).length = vs.length * 2 := flat_length encS_len vs
 by_cases ht : t < vs.length * 2
 ·have he : t / 2 * 2 + t % 2 = t := by omega
  have h1 := flat_at encS_len vs (t / 2) (by omega) (t % 2) (by omega)
  have h2 := flat_at encS_len (vs.set k p) (t / 2) (by simp; omega) (t % 2) (by omega)
  rw [he] at h1 h2
  rw [Array.getElem?_setIfInBounds, Array.getElem?_setIfInBounds]
  simp only [List.getElem?_toArray]
  rw [h1, h2]
  simp only [Array.size_setIfInBounds, List.size_toArray, hl]
  by_cases hq : t / 2 = k
  ·have hel : el (vs.set k p) (t / 2) = p := by rw [hq, el_get (by simpa using hk)]; simp
   rw [hel]
   have h01 : t = k * 2 ∨ t = k * 2 + 1 := by omega
   rcases h01 with h | h
   ·have e0 : t % 2 = 0 := by omega
    rw [if_neg (by omega), if_pos h.symm, if_pos (by omega), e0]; rfl
   ·have e0 : t % 2 = 1 := by omega
    rw [if_pos h.symm, if_pos (by omega), e0]; rfl
  ·have hel : el (vs.set k p) (t / 2) = el vs (t / 2) := by simp [el, List.getElem?_set_ne (Ne.symm hq)]
   rw [hel, if_neg (by omega), if_neg (by omega)]
 ·rw [Array.getElem?_eq_none (by simp only [Array.size_setIfInBounds, List.size_toArray, hl]; omega), List.getElem?_toArray, List.getElem?_eq_none (by rw [flat_length encS_len]; simp; omega)]
theorem el_setS {α : Type} [Inhabited α] {l : List α} {k j : Nat} (hk : k < l.length) (x : α) : el (l.set k x) j = if j = k then x else el l j := by
 by_cases h : j = k
 ·subst h; rw [if_pos rfl, el_get (by simpa using hk)]; simp
 ·rw [if_neg h]; simp [el, List.getElem?_set_ne (Ne.symm h)]
theorem sts_block {w : World} {bs B : Nat} {vs : List (Int × Value)} {l : List St} (hb : Blk w bs (vs.flatMap encS).toArray 56) (hl : vs.length = l.length) (h : ∀ j, j < l.length → (el vs j).1 = (el l j).1 ∧ w.ownsRow B 58 4 (el vs j).2 (el l j).2.length ((el l j).2.flatMap encA)) :
  Sts w (.slice (some ⟨bs, 0, none⟩) l.length l.length) l := by
 refine ⟨vs, .inr ⟨⟨bs, 0, none⟩, l.length, by rw [hl], fun j hj i u hu => ?_⟩, hl, fun j hj => ⟨(h j hj).1, Row.ofOwn encA_len (h j hj).2 rfl⟩⟩
 have hi : i < 2 := by
  rcases Nat.lt_or_ge i 2 with h | h
  ·exact h
  ·rw [List.getElem?_eq_none (by rw [encS_len]; exact h)] at hu; simp at hu
 rw [Addr.add_lit, Nat.zero_add]
 refine hb.cell _ ?_
 rw [List.getElem?_toArray, flat_at encS_len vs j hj i hi]
 exact hu
theorem made_arcs (n : Nat) : madeCells (Value.cells (.agg #[.int .i64 0, .int .i64 0, .int .i64 0, .int .i64 0])) (n * 4) = ((List.replicate n ((0, 0, 0, 0) : Ar)).flatMap encA).toArray := by
 apply Array.ext_getElem?
 intro t
 have hz : Value.cells (.agg #[.int .i64 0, .int .i64 0, .int .i64 0, .int .i64 0]) = #[.int .i64 0, .int .i64 0, .int .i64 0, .int .i64 0] := rfl
 by_cases ht : t < n * 4
 ·have h2 := flat_at encA_len (List.replicate n ((0, 0, 0, 0) : Ar)) (t / 4) (by simp; omega) (t % 4) (by omega)
  have he : t / 4 * 4 + t % 4 = t := by omega
  rw [he] at h2
  simp only [List.getElem?_toArray]
  rw [h2, el_get (by simp; omega), List.getElem_replicate]
  simp only [madeCells, hz, Array.getElem?_map]
  rw [Array.getElem?_eq_getElem (by simpa using ht)]
  have h01 : t % 4 = 0 ∨ t % 4 = 1 ∨ t % 4 = 2 ∨ t % 4 = 3 := by omega
  rcases h01 with h | h | h | h <;> simp [h, encA]
 ·rw [Array.getElem?_eq_none (by simp [size_madeCells]; omega), List.getElem?_toArray, List.getElem?_eq_none (by rw [flat_length encA_len]; simp; omega)]
theorem set_arc {xs : List Ar} {k : Nat} (hk : k < xs.length) (p : Ar) : ((((xs.flatMap encA).toArray.setIfInBounds (k * 4) (.int .i64 p.1)).setIfInBounds (k * 4 + 1) (.int .i64 p.2.1)).setIfInBounds (k * 4 + 2) (.int .i64 p.2.2.1)).setIfInBounds (k * 4 + 3) (.int .i64 p.2.2.2) = ((xs.set k p).flatMap encA).toArray := by
 apply Array.ext_getElem?
 intro t
 have hl : (xs.flatMap encA).length = xs.length * 4 := flat_length encA_len xs
 by_cases ht : t < xs.length * 4
 ·have he : t / 4 * 4 + t % 4 = t := by omega
  have h1 := flat_at encA_len xs (t / 4) (by omega) (t % 4) (by omega)
  have h2 := flat_at encA_len (xs.set k p) (t / 4) (by simp; omega) (t % 4) (by omega)
  rw [he] at h1 h2
  rw [Array.getElem?_setIfInBounds, Array.getElem?_setIfInBounds, Array.getElem?_setIfInBounds, Array.getElem?_setIfInBounds]
  simp only [List.getElem?_toArray]
  rw [h1, h2]
  simp only [Array.size_setIfInBounds, List.size_toArray, hl]
  by_cases hq : t / 4 = k
  ·have hel : el (xs.set k p) (t / 4) = p := by rw [hq, el_get (by simpa using hk)]; simp
   rw [hel]
   have h01 : t = k * 4 ∨ t = k * 4 + 1 ∨ t = k * 4 + 2 ∨ t = k * 4 + 3 := by omega
   rcases h01 with h | h | h | h
   ·have e0 : t % 4 = 0 := by omega
    rw [if_neg (by omega), if_neg (by omega), if_neg (by omega), if_pos h.symm, if_pos (by omega), e0]; rfl
   ·have e0 : t % 4 = 1 := by omega
    rw [if_neg (by omega), if_neg (by omega), if_pos h.symm, if_pos (by omega), e0]; rfl
   ·have e0 : t % 4 = 2 := by omega
    rw [if_neg (by omega), if_pos h.symm, if_pos (by omega), e0]; rfl
   ·have e0 : t % 4 = 3 := by omega
    rw [if_pos h.symm, if_pos (by omega), e0]; rfl
  ·have hel : el (xs.set k p) (t / 4) = el xs (t / 4) := by simp [el, List.getElem?_set_ne (Ne.symm hq)]
   rw [hel, if_neg (by omega), if_neg (by omega), if_neg (by omega), if_neg (by omega)]
 ·rw [Array.getElem?_eq_none (by simp only [Array.size_setIfInBounds, List.size_toArray, hl]; omega), List.getElem?_toArray, List.getElem?_eq_none (by rw [flat_length encA_len]; simp; omega)]
theorem run_arcs (n : Nat) (hn : n ≤ 1000) (W : World) : (Instr.makeSlice 54 (.int .i64 (n : Int)) (.int .i64 (n : Int))).run Tryz.prog W = .ok (.slice (some ⟨W.heap.size, 0, none⟩) n n) (W.alloc (.cells ((List.replicate n ((0, 0, 0, 0) : Ar)).flatMap encA).toArray 58)) := by
 obtain ⟨i1, hi1, hy0, hy1, hy2⟩ := info_parts infoArc
 have h := run_make (P := Tryz.prog) W 54 58 i1 _ Tryz.underlying54 hi1 hy0 .i64 .i64 n n (by omega) (by omega) (by rw [hy2]; omega) (by omega)
 rw [hy1, Int.toNat_natCast, made_arcs] at h
 exact h
theorem run_states (n : Nat) (hn : n ≤ 1000) (W : World) : (Instr.makeSlice 27 (.int .i64 (n : Int)) (.int .i64 (n : Int))).run Tryz.prog W = .ok (.slice (some ⟨W.heap.size, 0, none⟩) n n) (W.alloc (.cells ((List.replicate n ((0 : Int), Value.slice none 0 0)).flatMap encS).toArray 56)) := by
 obtain ⟨i1, hi1, hy0, hy1, hy2⟩ := info_parts infoState
 have h := run_make (P := Tryz.prog) W 27 56 i1 _ Tryz.underlying27 hi1 hy0 .i64 .i64 n n (by omega) (by omega) (by rw [hy2]; omega) (by omega)
 rw [hy1, Int.toNat_natCast, made_states] at h
 exact h
theorem arcs_block {w : World} {g B : Nat} {xs : List Ar} (h : Blk w g (xs.flatMap encA).toArray 58) (hB : B ≤ g) (hl : xs.length ≤ 1000) : w.ownsRow B 58 4 (.slice (some ⟨g, 0, none⟩) xs.length xs.length) xs.length (xs.flatMap encA) :=
 ⟨flat_length encA_len xs, .inr ⟨g, xs.length, _, rfl, hB, h, Nat.le_refl _, by unfold maxLen; omega, by simp [flat_length encA_len], by rw [List.take_of_length_le]; rw [Array.length_toList, List.size_toArray, flat_length encA_len]; exact Nat.le_refl _⟩⟩
end Go.Proofs.YtfhjncpakgailaaGreatDoor.Wt
