/- The program: a table of rows that grow, each of the call's own. -/
import Derived.Test.YtfpibdaedfilaaaHaq
import Derived.Test.YtfpibdaedfilaaaHad
namespace Go.Proofs.Ytfpibdaedfilaaa.Bw
open Go.ChangeShapes Go.WideShapes Go.ChangeAt Go.RowKit
open Go.Proofs.Ytfpibdaedfilaaa.Pl Go.Proofs.Ytfpibdaedfilaaa.Wt
set_option linter.unusedVariables false
set_option linter.unusedSimpArgs false
def encT (k : Int) : List Value := [.int .i64 (kA k), .int .i64 (kB k)]
theorem encT_len (k : Int) : (encT k).length = 2 := rfl
theorem encT_one (k : Int) : ∀ u ∈ encT k, u.oneCell' = true := by
 intro u hu
 simp [encT] at hu
 rcases hu with rfl | rfl <;> rfl
def putF {α : Type} (t : Nat) (x : α) (f : Nat → List α) : Nat → List α := fun j => if j = t then f j ++ [x] else f j
structure RowT {α : Type} (k : Nat) (enc : α → List Value) (et rt : TypeId) (w : World) (base g n : Nat) (vs : List Value) (f : Nat → List α) : Prop where
 len : vs.length = n
 blk : Blk w g vs.toArray rt
 row : ∀ j, j < n → w.ownsRow base et k (el vs j) (f j).length ((f j).flatMap enc)
 apart : ∀ i j, i < n → j < n → i ≠ j → (el vs i).ownBlock = none ∨ (el vs i).ownBlock ≠ (el vs j).ownBlock
section
variable {α : Type} {k : Nat} {enc : α → List Value} {et rt : TypeId} {w w' : World} {base g n : Nat} {vs : List Value} {f : Nat → List α}
theorem RowT.later (h : RowT k enc et rt w base g n vs f) (hb : Below w.heap.size w w') : RowT k enc et rt w' base g n vs f :=
 ⟨h.len, h.blk.below hb h.blk.lt, fun j hj => ownBelow (h.row j hj) hb, h.apart⟩
theorem RowT.cell (h : RowT k enc et rt w base g n vs f) {j : Nat} (hj : j < n) : w.cell? ⟨g, j, none⟩ = some (el vs j) := by
 refine h.blk.cell _ ?_
 have := h.len
 rw [List.getElem?_toArray, el_get (by omega), List.getElem?_eq_getElem (by omega)]
theorem el_setVb {l : List Value} {q j : Nat} (hq : q < l.length) (v : Value) : el (l.set q v) j = if j = q then v else el l j := by
 by_cases h : j = q
 ·subst h; rw [if_pos rfl, el_get (by simpa using hq)]; simp
 ·rw [if_neg h]; simp [el, List.getElem?_set_ne (Ne.symm h)]
theorem RowT.put {t : Nat} {x : α} {v' : Value} (hte : et ≠ rt) (h : RowT k enc et rt w base g n vs f) (ht : t < n) (ho : w'.ownsRow base et k v' ((f t).length + 1) ((f t).flatMap enc ++ [x].flatMap enc)) (hg : w.grownBy w' (el vs t).ownBlock) (hn : Near w (el vs t).ownBlock v') :
  RowT k enc et rt (w'.setCell ⟨g, t, none⟩ v') base g n (vs.set t v') (putF t x f) := by
 have hl := h.len
 have hb' : Blk w' g vs.toArray rt := h.blk.grown hg (own_ne (h.row t ht) h.blk hte)
 have hother : ∀ j, j < n → j ≠ t → w'.ownsRow base et k (el vs j) (f j).length ((f j).flatMap enc) := fun j hj hjt => (h.row j hj).kept hg (h.apart j t hj ht hjt)
 refine ⟨by simpa using hl, ?_, fun j hj => ?_, fun i j hi hj hij => ?_⟩
 ·have h9 := hb'.set t v'
  have e : vs.toArray.setIfInBounds t v' = (vs.set t v').toArray := by simp
  rw [e] at h9
  exact h9
 ·rw [el_setVb (by omega)]
  unfold putF
  by_cases e : j = t
  ·subst e
   rw [if_pos rfl, if_pos rfl, List.flatMap_append, List.length_append]
   exact ho.kept (gSet w' g j v') (.inr (Ne.symm (own_ne ho hb' hte)))
  ·rw [if_neg e, if_neg e]
   exact (hother j hj e).kept (gSet w' g t v') (.inr (Ne.symm (own_ne (hother j hj e) hb' hte)))
 ·rw [el_setVb (by omega), el_setVb (by omega)]
  by_cases e1 : i = t
  ·have e2 : ¬ j = t := fun e2 => hij (e1.trans e2.symm)
   rw [if_pos e1, if_neg e2]
   rcases hn with hn | ⟨b, hn, hbn⟩
   ·rw [hn]; exact h.apart t j ht hj (by omega)
   ·right
    rw [hn]
    intro e9
    have := ((h.row j hj).lt b e9.symm).2
    omega
  ·rw [if_neg e1]
   by_cases e2 : j = t
   ·rw [if_pos e2]
    rcases hn with hn | ⟨b, hn, hbn⟩
    ·rw [hn]; exact h.apart i t hi ht e1
    ·right
     rw [hn]
     intro e9
     have := ((h.row i hi).lt b e9).2
     omega
   ·rw [if_neg e2]; exact h.apart i j hi hj hij
theorem RowT.turn {b : Nat} {r : Option Nat} (h : RowT k enc et rt w base g n vs f) (ht : Turn2 w w' b r) (hgb : g ≠ b) (hgr : some g ≠ r) (hb : ∀ j, j < n → (el vs j).ownBlock ≠ some b) (hr : ∀ j, j < n → (el vs j).ownBlock = none ∨ (el vs j).ownBlock ≠ r) : RowT k enc et rt w' base g n vs f :=
 ⟨h.len, ht.blk h.blk hgb hgr, fun j hj => ht.row (h.row j hj) (hb j hj) (hr j hj), h.apart⟩
theorem RowT.alloc (h : RowT k enc et rt w base g n vs f) (o : Obj) : RowT k enc et rt (w.alloc o) base g n vs f := h.later ((Below.refl _ _).alloc (Nat.le_refl _) _)
theorem RowT.push [Inhabited α] {P : Program} {i : TypeInfo} {z : Value} {bytes : Nat} (hk : ∀ x, (enc x).length = k) (hk0 : 0 < k) (h1c : ∀ x, ∀ u ∈ enc x, u.oneCell' = true) (hte : et ≠ rt) (hu : P.underlying rt = some (.slice et)) (hi : P.info? et = some i) (hz : i.zero = some z) (hsize : i.size = k) (hby : i.bytes = bytes) (hzs : z.cells.size = k) (hb24 : bytes ≤ 32)
  (h : RowT k enc et rt w base g n vs f) {t : Nat} (ht : t < n) (hlen : (f t).length ≤ 1000000) (hbase : base ≤ w.heap.size) (x : α) :
  ∃ v' w2, (Builtin.append_ #[rt, rt] rt #[el vs t, .slice (some ⟨w.heap.size, 0, none⟩) 1 1]).run P (w.alloc (.cells (enc x).toArray et)) = .ok v' w2 ∧ RowT k enc et rt (w2.setCell ⟨g, t, none⟩ v') base g n (vs.set t v') (putF t x f) ∧ (w.alloc (.cells (enc x).toArray et)).grownBy w2 (el vs t).ownBlock ∧ Blk w2 g vs.toArray rt := by
 have ha := h.alloc (.cells (enc x).toArray et)
 have hbig : ((f t).length + 1) * bytes ≤ 140737488355328 := by
  have : ((f t).length + 1) * bytes ≤ 1000001 * 32 := Nat.mul_le_mul (by omega) hb24
  omega
 obtain ⟨v', w2, r2, o2, g2, n2⟩ := run_append_spot (P := P) (w := w.alloc (.cells (enc x).toArray et)) hk hk0 h1c rt rt base et i z bytes hu hi hz hsize hby hzs (el vs t) (f t).length ((f t).flatMap enc) (ha.row t ht) (.slice (some ⟨w.heap.size, 0, none⟩) 1 1) [x] (oneRow w x (hk x) et) (by simp; unfold maxLen; omega) (by simpa using hbig) (by rw [World.size_alloc]; exact Nat.le_succ_of_le hbase)
 exact ⟨v', w2, r2, ha.put hte ht o2 g2 n2, g2, ha.blk.grown g2 (own_ne (ha.row t ht) ha.blk hte)⟩
theorem RowT.start (h : Blk w g (List.replicate n (Value.slice none 0 0)).toArray rt) : RowT k enc et rt w base g n (List.replicate n (.slice none 0 0)) (fun _ => []) := by
 have he : ∀ j, j < n → el (List.replicate n (Value.slice none 0 0)) j = .slice none 0 0 := fun j hj => by simp [el, hj]
 refine ⟨by simp, h, fun j hj => ?_, fun i j hi hj _ => ?_⟩
 ·rw [he j hj]; exact World.ownsRow_nil _ _ _ _
 ·rw [he i hi]; exact .inl rfl
theorem RowT.Row [Inhabited α] (hk : ∀ x, (enc x).length = k) (h : RowT k enc et rt w base g n vs f) {j : Nat} (hj : j < n) : Wt.Row k enc w (el vs j) (f j) := Row.ofOwn hk (h.row j hj) rfl
end
theorem made_rowsB (n : Nat) : madeCells (Value.cells (.slice none 0 0)) (n * 1) = (List.replicate n (Value.slice none 0 0)).toArray := by
 have hz : Value.cells (.slice none 0 0) = #[.slice none 0 0] := rfl
 apply Array.ext_getElem?
 intro t
 simp only [madeCells, hz]
 by_cases ht : t < n
 ·simp [ht, Nat.mod_one]
 ·simp [ht]
theorem infoRowW : (Try.prog.info? 135).map (fun i => (i.zero, i.size, i.bytes)) = some (some (.slice none 0 0), 1, 24) := by kernel_rfl
theorem infoRowT : (Try.prog.info? 66).map (fun i => (i.zero, i.size, i.bytes)) = some (some (.slice none 0 0), 1, 24) := by kernel_rfl
theorem infoTwn : (Try.prog.info? 69).map (fun i => (i.zero, i.size, i.bytes)) = some (some (.agg #[.int .i64 0, .int .i64 0]), 2, 16) := by kernel_rfl
theorem run_rowsW (n : Nat) (hn : n ≤ 1000) (W : World) : (Instr.makeSlice 103 (.int .i64 (n : Int)) (.int .i64 (n : Int))).run Try.prog W = .ok (.slice (some ⟨W.heap.size, 0, none⟩) n n) (W.alloc (.cells (List.replicate n (Value.slice none 0 0)).toArray 135)) := by
 obtain ⟨i1, hi1, hy0, hy1, hy2⟩ := info_parts infoRowW
 have h := run_make (P := Try.prog) W 103 135 i1 _ Try.underlying103 hi1 hy0 .i64 .i64 n n (by omega) (by omega) (by rw [hy2]; omega) (by omega)
 rw [hy1, Int.toNat_natCast, made_rowsB] at h
 exact h
theorem run_rowsT (n : Nat) (hn : n ≤ 1000) (W : World) : (Instr.makeSlice 101 (.int .i64 (n : Int)) (.int .i64 (n : Int))).run Try.prog W = .ok (.slice (some ⟨W.heap.size, 0, none⟩) n n) (W.alloc (.cells (List.replicate n (Value.slice none 0 0)).toArray 66)) := by
 obtain ⟨i1, hi1, hy0, hy1, hy2⟩ := info_parts infoRowT
 have h := run_make (P := Try.prog) W 101 66 i1 _ Try.underlying101 hi1 hy0 .i64 .i64 n n (by omega) (by omega) (by rw [hy2]; omega) (by omega)
 rw [hy1, Int.toNat_natCast, made_rowsB] at h
 exact h
theorem RowT.kBlk {α : Type} {k : Nat} {enc : α → List Value} {et rt : TypeId} {w w2 : World} {base g n : Nat} {vs : List Value} {f : Nat → List α} (h : RowT k enc et rt w base g n vs f) {t : Nat} (ht : t < n) {ob : Obj} (hg : (w.alloc ob).grownBy w2 (el vs t).ownBlock) {b : Nat} {cs : Array Value} {t' : TypeId} (hB : Blk w b cs t') (h1 : et ≠ t') (h2 : rt ≠ t') (v : Value) : Blk w2 b cs t' ∧ Blk (w2.setCell ⟨g, t, none⟩ v) b cs t' := by
 have e1 := (hB.alloc ob).grown hg (own_ne ((h.alloc ob).row t ht) (hB.alloc ob) h1)
 refine ⟨e1, e1.setO _ _ fun e => ?_⟩
 have e2 : b = g := e
 subst e2
 have h3 := h.blk
 unfold Blk at h3 hB
 rw [hB] at h3
 simp at h3
 exact h2 h3.2.symm
theorem RowT.kBel {α : Type} {k : Nat} {enc : α → List Value} {et rt : TypeId} {w0 w w2 : World} {base g n B : Nat} {vs : List Value} {f : Nat → List α} (h : RowT k enc et rt w base g n vs f) {t : Nat} (ht : t < n) {ob : Obj} (hg : (w.alloc ob).grownBy w2 (el vs t).ownBlock) (hb : Below B w0 w) (h1 : B ≤ base) (h2 : B ≤ g) (h3 : B ≤ w.heap.size) (v : Value) : Below B w0 (w2.setCell ⟨g, t, none⟩ v) :=
 (hb.trans (((Below.refl B w).alloc h3 ob).trans (gBelow hg (fun k hk => Nat.le_trans h1 ((h.row t ht).lt k hk).1) (by rw [World.size_alloc]; exact Nat.le_succ_of_le h3)))).setCell (p := ⟨g, t, none⟩) h2 v
theorem pushW {w : World} {base g n : Nat} {vs : List Value} {f : Nat → List Ar} (h : RowT 3 encW 134 135 w base g n vs f) {t : Nat} (ht : t < n) (hlen : (f t).length ≤ 1000000) (hbase : base ≤ w.heap.size) (x : Ar) :
  ∃ xa xc va vc w2, el vs t = .slice xa (f t).length xc ∧ (Builtin.append_ #[135, 135] 135 #[.slice xa (f t).length xc, .slice (some ⟨w.heap.size, 0, none⟩) 1 1]).run Try.prog (w.alloc (.cells (encW x).toArray 134)) = .ok (.slice va ((f t).length + 1) vc) w2 ∧ RowT 3 encW 134 135 (w2.setCell ⟨g, t, none⟩ (.slice va ((f t).length + 1) vc)) base g n (vs.set t (.slice va ((f t).length + 1) vc)) (putF t x f) ∧ (w.alloc (.cells (encW x).toArray 134)).grownBy w2 (el vs t).ownBlock ∧ w2.cell? ⟨g, t, none⟩ = some (.slice xa (f t).length xc) ∧ w2.frozen? ⟨g, t, none⟩ = false := by
 obtain ⟨i1, hi1, hy0, hy1, hy2⟩ := info_parts infoWay
 obtain ⟨v', w2, r2, t2, g2, b2⟩ := h.push encW_len (by decide) encW_one (by decide) Try.underlying135 hi1 hy0 hy1 hy2 rfl (by decide) ht hlen hbase x
 obtain ⟨xa, xc, hx⟩ := own_slW (h.row t ht)
 obtain ⟨va, vc, hv⟩ := own_slW (t2.row t ht)
 have hl := h.len
 rw [el_setVb (by omega), if_pos rfl] at hv
 have hpl : (putF t x f t).length = (f t).length + 1 := by unfold putF; rw [if_pos rfl]; simp
 rw [hpl] at hv
 subst hv
 rw [hx] at r2
 exact ⟨xa, xc, va, vc, w2, hx, r2, t2, g2, by rw [← hx]; exact b2.cell _ (by rw [List.getElem?_toArray, el_get (by omega), List.getElem?_eq_getElem (by omega)]), b2.fz t⟩
theorem pushT {w : World} {base g n : Nat} {vs : List Value} {f : Nat → List Int} (h : RowT 2 encT 69 66 w base g n vs f) {t : Nat} (ht : t < n) (hlen : (f t).length ≤ 1000000) (hbase : base ≤ w.heap.size) (x : Int) :
  ∃ xa xc va vc w2, el vs t = .slice xa (f t).length xc ∧ (Builtin.append_ #[66, 66] 66 #[.slice xa (f t).length xc, .slice (some ⟨w.heap.size, 0, none⟩) 1 1]).run Try.prog (w.alloc (.cells (encT x).toArray 69)) = .ok (.slice va ((f t).length + 1) vc) w2 ∧ RowT 2 encT 69 66 (w2.setCell ⟨g, t, none⟩ (.slice va ((f t).length + 1) vc)) base g n (vs.set t (.slice va ((f t).length + 1) vc)) (putF t x f) ∧ (w.alloc (.cells (encT x).toArray 69)).grownBy w2 (el vs t).ownBlock ∧ w2.cell? ⟨g, t, none⟩ = some (.slice xa (f t).length xc) ∧ w2.frozen? ⟨g, t, none⟩ = false := by
 obtain ⟨i1, hi1, hy0, hy1, hy2⟩ := info_parts infoTwn
 obtain ⟨v', w2, r2, t2, g2, b2⟩ := h.push encT_len (by decide) encT_one (by decide) Try.underlying66 hi1 hy0 hy1 hy2 rfl (by decide) ht hlen hbase x
 obtain ⟨xa, xc, hx⟩ := own_slW (h.row t ht)
 obtain ⟨va, vc, hv⟩ := own_slW (t2.row t ht)
 have hl := h.len
 rw [el_setVb (by omega), if_pos rfl] at hv
 have hpl : (putF t x f t).length = (f t).length + 1 := by unfold putF; rw [if_pos rfl]; simp
 rw [hpl] at hv
 subst hv
 rw [hx] at r2
 exact ⟨xa, xc, va, vc, w2, hx, r2, t2, g2, by rw [← hx]; exact b2.cell _ (by rw [List.getElem?_toArray, el_get (by omega), List.getElem?_eq_getElem (by omega)]), b2.fz t⟩
theorem rowT_get {w : World} {v : Value} {ks : List Int} (h : Row 2 encT w v ks) : ∃ a cap, v = .slice a ks.length cap ∧ ∀ j, j < ks.length → ∃ b off, a = some ⟨b, off, none⟩ ∧ b < w.heap.size ∧ w.cell? ⟨b, off + j * 2, none⟩ = some (.int .i64 (kA (el ks j))) ∧ w.cell? ⟨b, off + j * 2 + 1, none⟩ = some (.int .i64 (kB (el ks j))) := by
 by_cases hz : 0 < ks.length
 ·obtain ⟨b, off, cap, rfl, hb, hc⟩ := Row.plain h (fun x => by rw [encT_len]; decide) hz
  exact ⟨_, _, rfl, fun j hj => ⟨b, off, rfl, hb, hc j hj 0 _ rfl, hc j hj 1 _ rfl⟩⟩
 ·obtain ⟨a, cap, rfl⟩ := Row.sl h
  exact ⟨a, cap, rfl, fun j hj => absurd hj (by omega)⟩
theorem rowW_get {w : World} {v : Value} {ws : List Ar} (h : Row 3 encW w v ws) : ∃ a cap, v = .slice a ws.length cap ∧ ∀ j, j < ws.length → ∃ b off, a = some ⟨b, off, none⟩ ∧ b < w.heap.size ∧ ThrW w b (off + j * 3) (el ws j) := by
 by_cases hz : 0 < ws.length
 ·obtain ⟨b, off, cap, rfl, hb, hc⟩ := Row.plain h (fun x => by rw [encW_len]; decide) hz
  exact ⟨_, _, rfl, fun j hj => ⟨b, off, rfl, hb, hc j hj 0 _ rfl, hc j hj 1 _ rfl, hc j hj 2 _ rfl⟩⟩
 ·obtain ⟨a, cap, rfl⟩ := Row.sl h
  exact ⟨a, cap, rfl, fun j hj => absurd hj (by omega)⟩
def StpT (w : World) (T n : Nat) (rows : List Value) (S : List (List Ar)) : Prop := T < w.heap.size ∧ ∀ q, q < n → w.cell? ⟨T, q, none⟩ = some (el rows q) ∧ Row 3 encW w (el rows q) (el S q)
theorem StpT.of {w : World} {base T n : Nat} {rows : List Value} {S : List (List Ar)} (h : RowT 3 encW 134 135 w base T n rows (fun j => el S j)) : StpT w T n rows S :=
 ⟨h.blk.lt, fun q hq => ⟨h.cell hq, h.Row encW_len hq⟩⟩
end Go.Proofs.Ytfpibdaedfilaaa.Bw
