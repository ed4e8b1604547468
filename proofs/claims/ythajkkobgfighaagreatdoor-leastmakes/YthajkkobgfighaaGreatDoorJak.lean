/- slices.Repeat at numbers: one number so many times. -/
import Derived.Test.YthajkkobgfighaaGreatDoorJad
import Derived.Test.YthajkkobgfighaaGreatDoorJab
import Derived.Test.YthajkkobgfighaaGreatDoorShelf
import Derived.Laws.CopyRow
import Derived.Laws.CopyOwn
import Derived.Lib.SlBuf
import Derived.Deep.DeepCutAuto
import Derived.Test.YthajkkobgfighaaGreatDoorRows
import Derived.Test.YthajkkobgfighaaGreatDoorJac
import Derived.WalkKit
import Derived.ProofKit
import Derived.OpenShut
import Derived.Below
import Derived.Lib.Builder
import Derived.Lib.AppendStr
import Derived.Lib.UnsafeStr
import Derived.Laws.Externs
import Derived.Shelf.RegionOpenPlain
import Derived.Lib.ItoaNum
import Derived.Lib.LaidTab
import Derived.WalkSpells
import Derived.WalkLawsBesides
import Derived.Sort.Grow
import Derived.Test.YthajkkobgfighaaGreatDoorJah
namespace Go.Proofs.YthajkkobgfighaaGreatDoor.Wt
open Go.ChangeShapes Go.WideShapes Go.ChangeAt Go.RowKit
open Go.Proofs.YthajkkobgfighaaGreatDoor.Pl
set_option linter.unusedVariables false
set_option linter.unusedSimpArgs false
theorem elemIntU : Tryz.prog.underlying 38 = some (.slice (Tryz.prog.elem 38)) := by kernel_rfl
theorem sizeIntU (w : World) : (sizeOf (Tryz.prog.elem 38)).run Tryz.prog w = .ok 1 w := by kernel_rfl
theorem infoIntR : (Tryz.prog.info? 3).map (·.size) = some 1 := by kernel_rfl
theorem run_fromU (G n k : Nat) (hk : k < n) (W : World) : (Instr.sliceAt 38 (.slice (some ⟨G, 0, none⟩) n n) (some (.int .i64 (k : Int))) none none).run Tryz.prog W = .ok (.slice (some ⟨G, k, none⟩) (n - k) (n - k)) W := by
 rw [run_sliceAt_slice _ _ _ _ _ _ elemIntU, run_slice_l _ _ _ _ _ elemIntU _ _ (by omega) (by omega), sizeIntU]
 simp only [Result.andThen_ok, sliced, Int.toNat_natCast]
 rw [if_neg (by omega)]
 simp [Addr.add]
 try omega
theorem run_toU (G n k : Nat) (h0 : 0 < k) (hk : k ≤ n) (W : World) : (Instr.sliceAt 38 (.slice (some ⟨G, 0, none⟩) n n) none (some (.int .i64 (k : Int))) none).run Tryz.prog W = .ok (.slice (some ⟨G, 0, none⟩) k n) W := by
 rw [run_sliceAt_slice _ _ _ _ _ _ elemIntU, run_slice_h _ _ _ _ _ elemIntU _ _ (by omega) (by omega), sizeIntU]
 simp only [Result.andThen_ok, sliced, Int.toNat_natCast]
 rw [if_neg (by omega)]
 simp [Addr.add]
def repL (k n : Nat) (x : Int) : List Int := List.replicate k x ++ List.replicate (n - k) 0
theorem repL_step (k n c : Nat) (x : Int) (hc : k + c ≤ n) : (((repL k n x).map (Value.int .i64)).toArray.toList.take k ++ List.replicate c (Value.int .i64 x) ++ ((repL k n x).map (Value.int .i64)).toArray.toList.drop (k + c)).toArray = ((repL (k + c) n x).map (Value.int .i64)).toArray := by
 congr 1
 simp only [repL, List.map_append, List.map_replicate]
 rw [List.take_left' (by simp)]
 have e : List.drop (k + c) (List.replicate k (Value.int .i64 x) ++ List.replicate (n - k) (Value.int .i64 0)) = List.replicate (n - (k + c)) (Value.int .i64 0) := by
  have h9 := List.drop_append (l₁ := List.replicate k (Value.int .i64 x)) (l₂ := List.replicate (n - k) (Value.int .i64 0)) (i := k + c)
  rw [h9]
  simp
  omega
 rw [e]
 rw [← List.replicate_append_replicate]
theorem repL_len {k n : Nat} {x : Int} (h : k ≤ n) : (repL k n x).length = n := by simp [repL]; omega
theorem repL_all (n : Nat) (x : Int) : repL n n x = List.replicate n x := by simp [repL]
set_option maxRecDepth 100000 in
set_option maxHeartbeats 3200000 in
theorem repeat_any (x : Int) (g n : Nat) (w : World) (hx : w.cell? ⟨g, 0, none⟩ = some (.int .i64 x)) (h1 : 1 ≤ n) (h60 : n ≤ 1000) :
  Calls Tryz.prog 26 #[.slice (some ⟨g, 0, none⟩) 1 1, .int .i64 (n : Int)] w fun e w' => ∃ G : Nat, e = .returned (.slice (some ⟨G, 0, none⟩) n n) ∧ Blk w' G ((List.replicate n x).map (Value.int .i64)).toArray 3 ∧ w.heap.size ≤ G ∧ Below w.heap.size w w' := by
 have hMul := Tryz.bits_Mul 1 n (by omega) (by omega) w
 rw [Nat.one_mul, Nat.div_eq_of_lt (by omega : n < 18446744073709551616), Nat.mod_eq_of_lt (by omega : n < 18446744073709551616)] at hMul
 have HMul : Hid (Calls Tryz.prog 59 #[.int .u64 1, .int .u64 (n : Int)] w fun e w' => e = .returned (.tuple #[.int .u64 0, .int .u64 (n : Int)]) ∧ w' = w) := hMul
 have hmk := run_nums n (by omega)
 have hA := (Below.refl w.heap.size w).alloc (Nat.le_refl _) (.cells (Array.replicate n (Value.int .i64 0)) 3)
 have G1 : Blk (w.alloc (.cells (Array.replicate n (Value.int .i64 0)) 3)) w.heap.size ((repL 0 n x).map (Value.int .i64)).toArray 3 := by
  have h9 := Blk.made w (Array.replicate n (Value.int .i64 0)) 3
  simpa [repL] using h9
 have hgl := World.block_lt_of_cell? _ _ hx
 have hx1 := (hA.cell (p := ⟨g, 0, none⟩) hgl).trans hx
 have R1 := run_copy_row (P := Tryz.prog) (w.alloc (.cells (Array.replicate n (Value.int .i64 0)) 3)) 38 38 3 3 w.heap.size 0 n n ⟨g, 0, none⟩ 1 1 _ 3 [.int .i64 x] Tryz.underlying38 infoIntR G1 (by simp [Nat.min_def]; omega) (fun j v hj => by
  cases j with
  | zero => simp at hj; subst hj; simpa [Addr.add] using hx1
  | succ j => simp at hj) (by simp [repL_len]; omega) (fun v hv => by rw [List.mem_singleton] at hv; subst hv; rfl)
 have e1 := repL_step 0 n 1 x (by omega)
 simp only [List.length_singleton, Nat.zero_add, List.replicate_one] at R1 e1
 rw [e1] at R1
 have G2 := hidP (setRow_heap _ _ _ ((repL 1 n x).map (Value.int .i64)).toArray _ _ G1)
 have W2 := hidP (below_setRow hA (Nat.le_refl _) ((repL 1 n x).map (Value.int .i64)).toArray)
 have e9 : goInt ((1 : Nat) : Int) = Value.int .i64 1 := rfl
 first | rw [e9] at R1 | skip
 clear hMul e1 e9 G1 hA hx hx1
 go_enter Tryz.func26, Tryz.ntmps26
 go_wp2_with (first
  | (go_at_call 59; (with_reducible refine HMul.out.mono ?_); rintro e w' ⟨rfl, hw⟩; have hw := Eq.symm hw; subst hw))
 generalize (w.alloc (.cells (Array.replicate n (Value.int .i64 0)) 3)).setRow w.heap.size ((repL 1 n x).map (Value.int .i64)).toArray = w2 at *
 obtain ⟨G, hG⟩ : ∃ G, G = w.heap.size := ⟨_, rfl⟩
 rw [← hG] at G2 ⊢
 have hGe : w.heap.size ≤ G := by omega
 clear hG R1
 go_loopw [8] (fun s8 wr => ∃ k : Nat, s8 = .int .i64 (k : Int) ∧ 0 < k ∧ k ≤ n ∧ Hid (Blk wr G ((repL k n x).map (Value.int .i64)).toArray 3) ∧ Hid (Below w.heap.size w wr)) (fun s8 _ => n - (intOf s8).toNat)
 case atStart => exact ⟨1, rfl, by omega, h1, G2, W2⟩
 case round =>
  clear G2 W2
  obtain ⟨k, rfl, hk0, hkn, hB, hW⟩ := hrel
  obtain ⟨w3, hw3⟩ : ∃ w3, w3 = wr := ⟨_, rfl⟩
  subst hw3
  by_cases hlt : k < n
  ·have k1 : (k : Int) < (n : Int) := by omega
   have hfr := run_fromU G n k hlt
   have hto := run_toU G n k hk0 hkn
   obtain ⟨c, hc⟩ : ∃ c, Nat.min k (n - k) = c := ⟨_, rfl⟩
   have hc1 : 0 < c ∧ k + c ≤ n := by rw [← hc]; simp only [Nat.min_def]; split <;> omega
   have R3 := run_copy_row (P := Tryz.prog) w3.drew 38 38 3 3 G k (n - k) (n - k) ⟨G, 0, none⟩ k n _ 3 (List.replicate c (.int .i64 x)) Tryz.underlying38 infoIntR hB.out (by rw [List.length_replicate]; exact hc.symm) (fun j v hj => by
    have hjc : j < c := by have := (List.getElem?_eq_some_iff.1 hj).1; simpa using this
    have hv : Value.int .i64 x = v := by simpa [hjc] using hj
    have hck : c ≤ k := by rw [← hc]; exact Nat.min_le_left _ _
    have h9 := num_cell hB.out (j := j) (by rw [repL_len hkn]; omega)
    have he : el (repL k n x) j = x := by simp [el, repL, List.getElem?_append, show j < k by omega]
    rw [he, hv] at h9
    rw [Addr.add_lit, Nat.zero_add]
    exact h9) (by simp [repL_len hkn]; omega) (fun v hv => by rw [List.mem_replicate] at hv; rw [hv.2]; rfl)
   rw [List.length_replicate, repL_step k n c x hc1.2] at R3
   have HR3 := hidP R3
   have G4 : Hid (Blk (w3.drew.setRow G ((repL (k + c) n x).map (Value.int .i64)).toArray) G ((repL (k + c) n x).map (Value.int .i64)).toArray 3) := setRow_heap w3.drew _ _ _ _ _ hB.out
   have W4 := hidP (below_setRow hW.out.drew hGe ((repL (k + c) n x).map (Value.int .i64)).toArray)
   have hkw : IntKind.i64.wrap ((k : Int) + (c : Int)) = (k : Int) + (c : Int) := wrapI (by omega) (by omega)
   clear R3 hc
   go_wp2
   refine region_anyL (fun _ => True) 1000 (by kernel_rfl) ?_
   have HT : (fun _ : World => True) w3.drew := trivial
   refine anyL_tk (i := 0) (v := ?v0_1) aZ0 (by kernel_rfl) ?y0_1 HT ?r0_1
   case y0_1 => intro wx hx; obtain ⟨⟩ := hx; go_simp; try (with_reducible rfl)
   simp only [Act.put, List.setIfInBounds_toArray, List.set_cons_zero, List.set_cons_succ]
   refine anyL_tk (i := 1) (v := ?v1_2) aZ1 (by kernel_rfl) ?y1_2 HT ?r1_2
   case y1_2 => intro wx hx; obtain ⟨⟩ := hx; go_simp; try (with_reducible rfl)
   simp only [Act.put, List.setIfInBounds_toArray, List.set_cons_zero, List.set_cons_succ]
   refine anyL_tk (i := 2) (v := ?v2_3) aZ2 (by kernel_rfl) ?y2_3 HT ?r2_3
   case y2_3 => intro wx hx; obtain ⟨⟩ := hx; go_simp; try (with_reducible rfl)
   simp only [Act.put, List.setIfInBounds_toArray, List.set_cons_zero, List.set_cons_succ]
   refine anyL_tk (i := 3) (v := ?v3_4) aZ3 (by kernel_rfl) ?y3_4 HT ?r3_4
   case y3_4 => intro wx hx; obtain ⟨⟩ := hx; go_simp; try (with_reducible rfl)
   simp only [Act.put, List.setIfInBounds_toArray, List.set_cons_zero, List.set_cons_succ]
   refine anyL_tk (i := 4) (v := ?v4_5) aZ4 (by kernel_rfl) ?y4_5 HT ?r4_5
   case y4_5 => intro wx hx; obtain ⟨⟩ := hx; go_simp; try (with_reducible rfl)
   simp only [Act.put, List.setIfInBounds_toArray, List.set_cons_zero, List.set_cons_succ]
   refine anyL_tk (i := 5) (v := ?v5_6) aZ5 (by kernel_rfl) ?y5_6 HT ?r5_6
   case y5_6 => intro wx hx; obtain ⟨⟩ := hx; go_simp; try (with_reducible rfl)
   simp only [Act.put, List.setIfInBounds_toArray, List.set_cons_zero, List.set_cons_succ]
   refine anyL_tk (i := 6) (v := ?v6_7) aZ6 (by kernel_rfl) ?y6_7 HT ?r6_7
   case y6_7 => intro wx hx; obtain ⟨⟩ := hx; go_simp; try (with_reducible rfl)
   simp only [Act.put, List.setIfInBounds_toArray, List.set_cons_zero, List.set_cons_succ]
   refine anyL_one (i := 7) aZ7 (by kernel_rfl) rfl (fun K hK => ?_)
   refine Lib.wp_copy_run _ _ _ 38 38 rfl _ _ rfl rfl HR3.out ?_
   refine hK _ _ (.inr trivial) ?_
   try simp only [Act.put, List.setIfInBounds_toArray, List.set_cons_zero, List.set_cons_succ]
   have HT2 : (fun _ : World => True) (w3.drew.setRow G ((repL (k + c) n x).map (Value.int .i64)).toArray) := trivial
   refine anyL_tk (i := 8) (v := ?v8_8) aZ8 (by kernel_rfl) ?y8_8 HT2 ?r8_8
   case y8_8 => intro wx hx; obtain ⟨⟩ := hx; go_simp; try (with_reducible rfl)
   simp only [Act.put, List.setIfInBounds_toArray, List.set_cons_zero, List.set_cons_succ]
   refine anyL_tk (i := 9) (v := ?v9_9) aZ9 (by kernel_rfl) ?y9_9 HT2 ?r9_9
   case y9_9 => intro wx hx; obtain ⟨⟩ := hx; go_simp; try (with_reducible rfl)
   simp only [Act.put, List.setIfInBounds_toArray, List.set_cons_zero, List.set_cons_succ]
   refine anyL_done (by kernel_rfl) (NoPanic.normal ?_)
   try simp only [Act.put, List.setIfInBounds_toArray, List.set_cons_zero, List.set_cons_succ]
   go_wp2
   go_roundw
   case rel => exact ⟨k + c, by go_num, by omega, hc1.2, G4, W4⟩
   case measure => simp [intOf]; omega
  ·have k1 : ¬ (k : Int) < (n : Int) := by omega
   obtain rfl : k = n := by omega
   rw [repL_all] at hB
   go_wp2
   go_ret
   exact ⟨G, rfl, by simpa using hB.out, hGe, hW.out⟩
end Go.Proofs.YthajkkobgfighaaGreatDoor.Wt
namespace Go.Proofs.YthajkkobgfighaaGreatDoor.Wt
open Go.ChangeShapes Go.WideShapes Go.ChangeAt Go.RowKit
open Go.Proofs.YthajkkobgfighaaGreatDoor.Pl
set_option linter.unusedVariables false
theorem infoBuilder : (Tryz.prog.info? 126).map (·.size) = some 2 := by kernel_rfl
theorem liesBuilderV : liesAt Tryz.prog Tryz.prog.depth 126 (2 / Tryz.prog.cellsOf 126) 0 126 1 = true := by kernel_rfl
theorem infoByte : (Tryz.prog.info? 5).map (fun i => (i.zero, i.size, i.bytes)) = some (some (.int .u8 0), 1, 1) := by kernel_rfl
theorem chk_used (b : Nat) (w : World) (h0 : w.cell? ⟨b, 0, none⟩ = some (.pointer (some ⟨b, 0, none⟩))) :
  Calls Tryz.prog 117 #[.pointer (some ⟨b, 0, none⟩)] w fun e w' => e = .returned (.tuple #[]) ∧ w' = w := by
 obtain ⟨j, hj, _⟩ := Option.map_eq_some_iff.1 infoBuilder
 have hne := Lib.run_neq_ptr_same (P := Tryz.prog) w ⟨b, 0, none⟩ Tryz.underlying123 hj
 go_enter Tryz.func117, Tryz.ntmps117
 go_wp2
 go_end0
 exact ⟨rfl, rfl⟩
theorem noEscape (a : Addr) (w : World) : (callFunc 125 #[.pointer (some a)]).run Tryz.prog w = .ok (.value (.pointer (some a))) w := by
 rw [run_callFunc_extern Tryz.func125 (by kernel_rfl) (by kernel_rfl) (by kernel_rfl) (e := Extern.AbiNoEscape.same) (by kernel_rfl)]
 rfl
theorem chk_fresh (b : Nat) (w : World) (h0 : w.cell? ⟨b, 0, none⟩ = some (.pointer none)) (hsh : w.shape? b = some (126, 2)) (hfz : w.frozen? ⟨b, 0, none⟩ = false) :
  Calls Tryz.prog 117 #[.pointer (some ⟨b, 0, none⟩)] w fun e w' => e = .returned (.tuple #[]) ∧ w' = w.setCell ⟨b, 0, none⟩ (.pointer (some ⟨b, 0, none⟩)) := by
 obtain ⟨j, hj, hjs⟩ := Option.map_eq_some_iff.1 infoBuilder
 have hne := fun w => Lib.run_neq_ptr_same (P := Tryz.prog) w ⟨b, 0, none⟩ Tryz.underlying123 hj
 have hto := Lib.run_to_unsafe (P := Tryz.prog) w ⟨b, 0, none⟩ Tryz.underlying123 Tryz.underlying164 hj (by rw [hjs]; decide) hsh (Nat.zero_lt_succ 1)
 have hfr := Lib.run_from_unsafe (P := Tryz.prog) w ⟨b, 0, none⟩ Tryz.underlying164 Tryz.underlying123 hj hsh liesBuilderV
 have hes := noEscape ⟨b, 0, none⟩ w
 go_enter Tryz.func117, Tryz.ntmps117
 go_wp2
 go_end0
 exact ⟨rfl, rfl⟩
def Oth (w w' : World) : Prop := ∀ (k : Nat) (cs : Array Value) (T : TypeId) (fr : Nat × Nat), w.heap[k]? = some (.cells cs T fr) → T ≠ 126 → T ≠ 5 → w'.heap[k]? = some (.cells cs T fr)
theorem Oth.refl (w : World) : Oth w w := fun _ _ _ _ h _ _ => h
theorem Oth.trans {w w' w2 : World} (h : Oth w w') (h2 : Oth w' w2) : Oth w w2 := fun k cs T fr e a b => h2 k cs T fr (h k cs T fr e a b) a b
theorem Oth.of {w w' : World} (h : Below w.heap.size w w') : Oth w w' := fun k cs T fr e _ _ => (h.block k (lt_of_block e)).trans e
theorem Oth.set {w : World} {b o : Nat} {v : Value} {cs : Array Value} (hb : w.heap[b]? = some (.cells cs 126 (0, 0))) : Oth w (w.setCell ⟨b, o, none⟩ v) := fun k ds T fr e a _ => by
 by_cases hk : k = b
 ·subst hk
  rw [hb] at e
  simp only [Option.some.injEq, Obj.cells.injEq] at e
  exact absurd e.2.1.symm a
 ·rw [Below.heap_setCell _ _ _ _ (fun h => hk h)]; exact e
theorem Oth.grown {w w' : World} {B : Nat} {v : Value} {n : Nat} {xs : List Value} (ho : w.ownsRow B 5 1 v n xs) (hg : w.grownBy w' v.ownBlock) : Oth w w' := fun k ds T fr e _ b => by
 rw [hg.block k (lt_of_block e) (fun h => ?_)]
 ·exact e
 ·rcases ho.2 with ⟨hv, _⟩ | ⟨g, cap, cur, hv, _, hgb, _⟩
  ·rw [hv] at h; simp [Value.ownBlock] at h
  ·rw [hv] at h
   simp only [Value.ownBlock, Option.some.injEq] at h
   subst h
   rw [hgb] at e
   simp only [Option.some.injEq, Obj.cells.injEq] at e
   exact b e.2.1.symm
theorem chk_any (B b : Nat) (bs : List Value) (w : World) (h : Lib.IsBuilder 126 5 B b bs w) :
  Calls Tryz.prog 117 #[.pointer (some ⟨b, 0, none⟩)] w fun e w' => e = .returned (.tuple #[]) ∧ (Lib.BuilderAt 126 5 B b (.pointer (some ⟨b, 0, none⟩)) bs w' ∧ Below B w w' ∧ Oth w w') := by
 rcases h with h | h
 ·refine (chk_fresh b w h.cell0 h.shape h.frozen0).mono ?_
  rintro e w' ⟨rfl, rfl⟩
  exact ⟨rfl, h.used _, (Below.refl B w).setCell (p := ⟨b, 0, none⟩) h.1 _, by obtain ⟨_, _, hb, _⟩ := h; exact Oth.set hb⟩
 ·refine (chk_used b w h.cell0).mono ?_
  rintro e w' ⟨rfl, rfl⟩
  exact ⟨rfl, h, Below.refl B _, Oth.refl _⟩
theorem put_facts {B b : Nat} {v v' : Value} {bs : List Value} {w1 w2 : World} {k : List Value} (hbk : w1.heap[b]? = some (.cells #[.pointer (some ⟨b, 0, none⟩), v] 126 (0, 0))) (hne : v.ownBlock ≠ some b) (hg : w1.grownBy w2 v.ownBlock) :
  w2.heap[b]? = some (.cells #[.pointer (some ⟨b, 0, none⟩), v] 126 (0, 0)) := by
 rw [hg.block b (lt_of_block hbk) (fun e => hne e.symm)]
 exact hbk
theorem own_slice {w : World} {B : Nat} {e : TypeId} {v : Value} {n : Nat} {xs : List Value} (h : w.ownsRow B e 1 v n xs) : ∃ ao n' cap, v = .slice ao n' cap := by
 rcases h.2 with ⟨hv, _⟩ | ⟨g, cap, cur, hv, _⟩
 ·exact ⟨_, _, _, hv⟩
 ·exact ⟨_, _, _, hv⟩
set_option maxHeartbeats 1000000 in
theorem write_any (B b : Nat) (bs : List Value) (s : ByteArray) (w : World) (h : Lib.IsBuilder 126 5 B b bs w) (hlen : bs.length + s.size ≤ 140737488355328) (hBw : B ≤ w.heap.size) :
  Calls Tryz.prog 93 #[.pointer (some ⟨b, 0, none⟩), .string s] w fun e w' => e = .returned (.tuple #[.int .i64 s.size, .nilIface]) ∧ (Lib.IsBuilder 126 5 B b (bs ++ Lib.strCells s) w' ∧ Below B w w' ∧ Oth w w') := by
 obtain ⟨i0, hi, hz0, hz1, hz2⟩ := info_parts infoByte
 have H : Hid (Lib.IsBuilder 126 5 B b bs w) := h
 clear h
 go_enter Tryz.func93, Tryz.ntmps93
 go_wp2_with (go_at_call 117; refine (chk_any B b bs _ H.out).mono ?_)
 rintro e w1 ⟨rfl, h1, hb1, ho1⟩
 have HO1 : Hid (Oth w w1) := ho1
 clear ho1
 obtain ⟨hB, v, hbk, hown, hne⟩ := h1
 have c0 : w1.cell? ⟨b, 0, none⟩ = some (.pointer (some ⟨b, 0, none⟩)) := by simp [World.cell?, hbk]
 have c1 : w1.cell? ⟨b, 1, none⟩ = some v := by simp [World.cell?, hbk]
 have hbs := hb1.size
 go_wp2_with (at_builtin; refine Lib.wpList_append_own_string _ rfl _ _ 124 9 rfl B 5 i0 Tryz.underlying124 Tryz.underlying9 hi hz0 hz1 hz2 _ _ _ rfl hown s rfl (by unfold maxLen; omega) (by omega) (by omega) ?_)
 intro v' w2 hown' hgrow _
 have hb2 := put_facts (v' := v') (bs := bs) (B := B) (k := []) hbk hne hgrow
 have d0 : w2.cell? ⟨b, 0, none⟩ = some (.pointer (some ⟨b, 0, none⟩)) := by simp [World.cell?, hb2]
 have d1 : w2.cell? ⟨b, 1, none⟩ = some v := by simp [World.cell?, hb2]
 have f1 : w2.frozen? ⟨b, 1, none⟩ = false := by simp [World.frozen?, hb2]
 obtain ⟨ao, n', cap, rfl⟩ := own_slice hown'
 go_wp2
 go_ret2
 refine ⟨rfl, .inr ?_, ?_, ?_⟩
 ·exact Lib.BuilderAt.put (T := 126) (e := 5) hB hb2 (bs' := bs ++ Lib.strCells s) (by simpa [Lib.strCells_length] using hown') (by decide)
 ·exact (hb1.grown hgrow (by omega) (fun k hk => (hown.lt k hk).1)).setCell (p := ⟨b, 1, none⟩) hB _
 ·exact (HO1.out.trans (Oth.grown hown hgrow)).trans (Oth.set hb2)
def Bld (B b : Nat) (l : List UInt8) (w : World) : Prop := Lib.IsBuilder 126 5 B b (Lib.byteCells l) w
theorem bat_later {B b : Nat} {p : Value} {bs : List Value} {w w' : World} (h : Lib.BuilderAt 126 5 B b p bs w) (hb : Below w.heap.size w w') : Lib.BuilderAt 126 5 B b p bs w' := by
 obtain ⟨h1, v, h2, h3, h4⟩ := h
 exact ⟨h1, v, (hb.block b (lt_of_block h2)).trans h2, h3.kept (row := none) ⟨hb.os, hb.tape, hb.output, hb.size, fun k hk _ => hb.block k hk⟩ (by
  cases hv : v.ownBlock with
  | none => exact .inl rfl
  | some k => exact .inr (by simp)), h4⟩
theorem Bld.later {B b : Nat} {l : List UInt8} {w w' : World} (h : Bld B b l w) (hb : Below w.heap.size w w') : Bld B b l w' := by
 rcases h with h | h
 ·exact .inl (bat_later h hb)
 ·exact .inr (bat_later h hb)
theorem Bld.lt {B b : Nat} {l : List UInt8} {w : World} (h : Bld B b l w) : b < w.heap.size := by
 rcases h with h | h
 ·exact h.lt
 ·exact h.lt
theorem Bld.made (w : World) : Bld w.heap.size w.heap.size [] (w.alloc (.cells #[.pointer none, .slice none 0 0] 126)) := by
 refine .inl ⟨Nat.le_refl _, .slice none 0 0, ?_, World.ownsRow_nil _ _ _ _, by simp [Value.ownBlock]⟩
 show (w.heap.push _)[w.heap.size]? = _
 simp
theorem write_bytes (B b : Nat) (l : List UInt8) (s : ByteArray) (w : World) (h : Bld B b l w) (hlen : l.length ≤ 1000000) (hs : s.size ≤ 1000000) (hBw : B ≤ w.heap.size) :
  Calls Tryz.prog 93 #[.pointer (some ⟨b, 0, none⟩), .string s] w fun e w' => e = .returned (.tuple #[.int .i64 s.size, .nilIface]) ∧ (Bld B b (l ++ s.data.toList) w' ∧ Below B w w' ∧ Oth w w') := by
 refine (write_any B b (Lib.byteCells l) s w h (by rw [Lib.byteCells_length]; omega) hBw).mono ?_
 rintro e w' ⟨rfl, h1, h2⟩
 exact ⟨rfl, by unfold Bld; rw [Lib.byteCells, List.map_append]; exact h1, h2⟩
theorem hidB {p : Prop} (h : p) : Hid p := h
def encY (x : UInt8) : List Value := [.int .u8 x.toNat]
theorem encY_len (x : UInt8) : (encY x).length = 1 := rfl
theorem encY_one (x : UInt8) : ∀ u ∈ encY x, u.oneCell' = true := by
 intro u hu
 simp [encY] at hu
 subst hu
 rfl
set_option maxHeartbeats 1000000 in
theorem writeByte_any (B b : Nat) (l : List UInt8) (x : UInt8) (c : Int) (w : World) (h : Bld B b l w) (hc : (x.toNat : Int) = c) (hlen : l.length ≤ 1000000) (hBw : B ≤ w.heap.size) :
  Calls Tryz.prog 95 #[.pointer (some ⟨b, 0, none⟩), .int .u8 c] w fun e w' => e = .returned .nilIface ∧ (Bld B b (l ++ [x]) w' ∧ Below B w w' ∧ Oth w w') := by
 obtain ⟨i0, hi, hz0, hz1, hz2⟩ := info_parts infoByte
 have H : Hid (Lib.IsBuilder 126 5 B b (Lib.byteCells l) w) := h
 have HC : Hid ((x.toNat : Int) = c) := hc
 clear h hc
 go_enter Tryz.func95, Tryz.ntmps95
 go_wp2_with (go_at_call 117; refine (chk_any B b (Lib.byteCells l) _ H.out).mono ?_)
 rintro e w1 ⟨rfl, h1, hb1, ho1⟩
 have HO1 : Hid (Oth w w1) := ho1
 clear ho1
 obtain ⟨hB, v, hbk, hown, hne⟩ := h1
 have hbs := hb1.size
 have hA := (Below.refl w1.heap.size w1).alloc (Nat.le_refl _) (.cells #[.int .u8 c] 5)
 have hOA : Hid (Oth w1 (w1.alloc (.cells #[.int .u8 c] 5))) := Oth.of hA
 have hownA := World.ownsRow.alloc hown (.cells #[.int .u8 c] 5)
 have hXr : Row 1 encY (w1.alloc (.cells #[.int .u8 c] 5)) (.slice (some ⟨w1.heap.size, 0, none⟩) 1 1) [x] := by
  rw [← HC.out]
  exact oneRow (enc := encY) w1 x rfl 5
 obtain ⟨v4, w4, r4, ho4, hg4⟩ := run_append_rows (P := Tryz.prog) (w := w1.alloc (.cells #[.int .u8 c] 5)) encY_len (by decide) encY_one 124 124 B 5 i0 _ 1 Tryz.underlying124 hi hz0 hz1 hz2 rfl v _ _ hownA _ [x] hXr (by rw [Lib.byteCells_length]; simp; unfold maxLen; omega) (by rw [Lib.byteCells_length]; simp; omega) (by simp; omega)
 have hbkA : (w1.alloc (.cells #[.int .u8 c] 5)).heap[b]? = some (.cells #[.pointer (some ⟨b, 0, none⟩), v] 126 (0, 0)) := (hA.block b (lt_of_block hbk)).trans hbk
 have hb2 := put_facts (v' := v4) (bs := Lib.byteCells l) (B := B) (k := []) hbkA hne hg4
 have c1 : w1.cell? ⟨b, 1, none⟩ = some v := by simp [World.cell?, hbk]
 have d1 : w4.cell? ⟨b, 1, none⟩ = some v := by simp [World.cell?, hb2]
 have f1 : w4.frozen? ⟨b, 1, none⟩ = false := by simp [World.frozen?, hb2]
 have HO4 : Hid (Oth w w4) := (HO1.out.trans hOA.out).trans (Oth.grown hownA hg4)
 have HB4 : Hid (Below B w w4) := (hb1.alloc (by omega) _).grown hg4 (by simp; omega) (fun k hk => (hownA.lt k hk).1)
 have HOW : Hid (w4.ownsRow B 5 1 v4 (Lib.byteCells (l ++ [x])).length (Lib.byteCells (l ++ [x]))) := by
  have h9 := ho4
  rw [show (Lib.byteCells (l ++ [x])) = Lib.byteCells l ++ [x].flatMap encY by simp [Lib.byteCells, encY], List.length_append]
  exact h9
 have HB2 := hidB hb2
 have HBB := hidB hB
 have HR4 := hidB r4
 obtain ⟨ao, n', cap, rfl⟩ := own_slice ho4
 clear hbk hown hne hA hownA hXr ho4 hg4 hbkA hb2 hB hb1 hOA HO1 hbs r4
 go_wp2_with (at_builtin; refine wpListAppendRun rfl _ _ 124 rfl rfl rfl HR4.out ?_)
 go_ret
 refine ⟨rfl, .inr ?_, ?_, ?_⟩
 ·exact Lib.BuilderAt.put (T := 126) (e := 5) HBB.out HB2.out (bs' := Lib.byteCells (l ++ [x])) (by simpa using HOW.out) (by decide)
 ·exact HB4.out.setCell (p := ⟨b, 1, none⟩) HBB.out _
 ·exact HO4.out.trans (Oth.set HB2.out)
theorem cellsByte : Tryz.prog.cellsOf 5 = 1 := by kernel_rfl
set_option maxHeartbeats 1000000 in
set_option maxRecDepth 100000 in
theorem string_any (B b : Nat) (l : List UInt8) (w : World) (h : Bld B b l w) (h0 : l ≠ []) :
  Calls Tryz.prog 96 #[.pointer (some ⟨b, 0, none⟩)] w fun e w' => e = .returned (.string ⟨l.toArray⟩) ∧ Below B w w' := by
 obtain ⟨p, hB, v, hbk, hown, hne⟩ : ∃ p, Lib.BuilderAt 126 5 B b p (Lib.byteCells l) w := by
  rcases h with h | h
  ·exact ⟨_, h⟩
  ·exact ⟨_, h⟩
 have hl0 : l.length ≠ 0 := by simpa using h0
 rw [Lib.byteCells_length] at hown
 obtain ⟨g, cap, cur, rfl, hbg, hg, hnc, hcm, hcs, htake⟩ : ∃ g cap cur, v = .slice (some ⟨g, 0, none⟩) l.length cap ∧ B ≤ g ∧ w.heap[g]? = some (.cells cur 5 (0, 0)) ∧ l.length ≤ cap ∧ cap ≤ maxLen ∧ cur.size = cap * 1 ∧ cur.toList.take (l.length * 1) = Lib.byteCells l := by
  rcases hown.2 with ⟨_, hz⟩ | ⟨g, cap, cur, hv, r⟩
  ·exact absurd hz hl0
  ·exact ⟨g, cap, cur, hv, r⟩
 have c1 : w.drew.cell? ⟨b, 1, none⟩ = some (.slice (some ⟨g, 0, none⟩) l.length cap) := by
  have : w.drew.heap[b]? = some (.cells #[p, .slice (some ⟨g, 0, none⟩) l.length cap] 126 (0, 0)) := hbk
  rw [Lib.cell_of_heap this]; rfl
 have hSD : (Builtin.unsafeSliceData_ #[124] 156 #[.slice (some ⟨g, 0, none⟩) l.length cap]).run Tryz.prog w.drew = .ok (.pointer (some ⟨g, 0, none⟩)) w.drew :=
  Lib.run_unsafeSliceData_row _ _ _ _ _ _ (by omega)
 have hUS : (Builtin.unsafeString_ #[156, 3] 9 #[.pointer (some ⟨g, 0, none⟩), .int .i64 l.length]).run Tryz.prog w.drew = .ok (.string ⟨l.toArray⟩) (w.drew.freeze ⟨g, 0, none⟩ l.length) := by
  refine Lib.run_unsafeString_row w.drew 156 3 9 5 Tryz.underlying156 cellsByte g cur.size (by have hg' : w.drew.heap[g]? = some (.cells cur 5 (0, 0)) := hg; simp [World.shape?, hg']) l h0 (by omega) (by unfold maxLen at hcm; omega) ?_
  intro j x hx
  have := hown.cells (g := g) rfl j (.int .u8 x.toNat) (by simp [Lib.byteCells, hx])
  exact this
 have mixed : Tryz.prog.follows Departure.mixedOrders = true := by kernel_rfl
 clear hbk hown hne htake hg hcs
 go_enter Tryz.func96, Tryz.ntmps96
 go_wp2
 go_region_o
 all_goals (go_wp2; go_ret; exact ⟨rfl, Lib.below_freeze (Below.drew (Below.refl B w)) (p := ⟨g, 0, none⟩) hbg _⟩)
end Go.Proofs.YthajkkobgfighaaGreatDoor.Wt
namespace Go.Proofs.YthajkkobgfighaaGreatDoor.Wt
open Go.ChangeShapes Go.WideShapes Go.ChangeAt Go.RowKit
set_option linter.unusedVariables false
def Tab (w : World) : Prop := Lib.TabIs Tryz.prog w "internal/strconv.uint64pow10" .u64 Lib.pow10Tab
theorem Tab.later {w w' : World} (h : Tab w) (hb : Below w.heap.size w w') : Tab w' := by
  unfold Tab Lib.TabIs at *
  unfold World.var? at h ⊢
  cases hg : Tryz.prog.globalNamed "internal/strconv.uint64pow10" with
  | none => rw [hg] at h; simp at h
  | some g =>
    simp only [hg, Option.bind_some] at h ⊢
    have hlt : g < w.heap.size := by
      rcases Nat.lt_or_ge g w.heap.size with h' | h'
      · exact h'
      · rw [Array.getElem?_eq_none h'] at h; simp at h
    rw [hb.block g hlt]
    exact h
theorem below_grow (w : World) (k : Nat) (os : Array Obj) : Below w.heap.size w (Sort.grow (w.drewN k) os) :=
 ⟨rfl, rfl, rfl, by show w.heap.size ≤ (w.heap ++ os).size; simp, fun i hi => by show (w.heap ++ os)[i]? = _; rw [Array.getElem?_append, if_pos hi]⟩
end Go.Proofs.YthajkkobgfighaaGreatDoor.Wt
namespace Go.Proofs.YthajkkobgfighaaGreatDoor.Wt
open Go.ChangeShapes Go.WideShapes Go.ChangeAt Go.RowKit
open Go.Proofs.YthajkkobgfighaaGreatDoor.Pl
set_option linter.unusedVariables false
set_option linter.unusedSimpArgs false
theorem itoa_dg (n : Int) (w : World) (ht : Tab w) (h0 : 0 ≤ n) (h1 : n ≤ 2000000000000) (s : ByteArray) (hs : ⟨(dgT n).toArray⟩ = s) :
  Calls Tryz.prog 94 #[.int .i64 n] w fun e w' => e = .returned (.string s) ∧ Below w.heap.size w w' := by
 have e : (⟨(Lib.itoa n).toArray⟩ : ByteArray) = s := by rw [← hs, itoa_nat h0]; rfl
 refine (Tryz.strconv_Itoa n (by omega) (by omega) w ht).mono ?_
 rw [e]
 rintro e w' ⟨rfl, k, os, rfl⟩
 exact ⟨rfl, below_grow _ _ _⟩
theorem Oth.blk {w w' : World} (h : Oth w w') {b : Nat} {cs : Array Value} {t : TypeId} (hb : Blk w b cs t) (h1 : t ≠ 126) (h2 : t ≠ 5) : Blk w' b cs t := h b cs t (0, 0) hb h1 h2
end Go.Proofs.YthajkkobgfighaaGreatDoor.Wt
