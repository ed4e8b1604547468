/- The program: a table of rows that grow, each of the call's own. -/
import Derived.Test.YtfpibdaedfilaaaEat
import Derived.Test.YtfpibdaedfilaaaEai
import Derived.Test.YtfpibdaedfilaaaEae
namespace Go.Proofs.Ytfpibdaedfilaaa.Bw
open Go.ChangeShapes Go.WideShapes Go.ChangeAt Go.RowKit
open Go.Proofs.Ytfpibdaedfilaaa.Pl Go.Proofs.Ytfpibdaedfilaaa.Wt
set_option linter.unusedVariables false
set_option linter.unusedSimpArgs false
def encT (k : Int) : List Value := [.int .i64 (kA k), .int .i64 (kB k)]
theorem encT_len (k : Int) : (encT k).length = 2 := rfl
theorem encT_one (k : Int) : ∀ u ∈ encT k, u.oneCell' = true := by
 intro u hu
 simp [encT] at hu
 rcases hu with rfl | rfl <;> rfl
def putF {α : Type} (t : Nat) (x : α) (f : Nat → List α) : Nat → List α := fun j => if j = t then f j ++ [x] else f j
structure RowT {α : Type} (k : Nat) (enc : α → List Value) (et rt : TypeId) (w : World) (base g n : Nat) (vs : List Value) (f : Nat → List α) : Prop where
 len : vs.length = n
 blk : Blk w g vs.toArray rt
 row : ∀ j, j < n → w.ownsRow base et k (el vs j) (f j).length ((f j).flatMap enc)
 apart : ∀ i j, i < n → j < n → i ≠ j → (el vs i).ownBlock = none ∨ (el vs i).ownBlock ≠ (el vs j).ownBlock
section
variable {α : Type} {k : Nat} {enc : α → List Value} {et rt : TypeId} {w w' : World} {base g n : Nat} {vs : List Value} {f : Nat → List α}
theorem RowT.later (h : RowT k enc et rt w base g n vs f) (hb : Below w.heap.size w w') : RowT k enc et rt w' base g n vs f :=
 ⟨h.len, h.blk.below hb h.blk.lt, fun j hj => ownBelow (h.row j hj) hb, h.apart⟩
theorem RowT.cell (h : RowT k enc et rt w base g n vs f) {j : Nat} (hj : j < n) : w.cell? ⟨g, j, none⟩ = some (el vs j) := by
 refine h.blk.cell _ ?_
 have := h.len
 rw [List.getElem?_toArray, el_get (by omega), List.getElem?_eq_getElem (by omega)]
theorem el_setVb {l : List Value} {q j : Nat} (hq : q < l.length) (v : Value) : el (l.set q v) j = if j = q then v else el l j := by
 by_cases h : j = q
 ·subst h; rw [if_pos rfl, el_get (by simpa using hq)]; simp
 ·rw [if_neg h]; simp [el, List.getElem?_set_ne (Ne.symm h)]
theorem RowT.put {t : Nat} {x : α} {v' : Value} (hte : et ≠ rt) (h : RowT k enc et rt w base g n vs f) (ht : t < n) (ho : w'.ownsRow base et k v' ((f t).length + 1) ((f t).flatMap enc ++ [x].flatMap enc)) (hg : w.grownBy w' (el vs t).ownBlock) (hn : Near w (el vs t).ownBlock v') :
  RowT k enc et rt (w'.setCell ⟨g, t, none⟩ v') base g n (vs.set t v') (putF t x f) := by
 have hl := h.len
 have hb' : Blk w' g vs.toArray rt := h.blk.grown hg (own_ne (h.row t ht) h.blk hte)
 have hother : ∀ j, j < n → j ≠ t → w'.ownsRow base et k (el vs j) (f j).length ((f j).flatMap enc) := fun j hj hjt => (h.row j hj).kept hg (h.apart j t hj ht hjt)
 refine ⟨by simpa using hl, ?_, fun j hj => ?_, fun i j hi hj hij => ?_⟩
 ·have h9 := hb'.set t v'
  have e : vs.toArray.setIfInBounds t v' = (vs.set t v').toArray := by simp
  rw [e] at h9
  exact h9
 ·rw [el_setVb (by omega)]
  unfold putF
  by_cases e : j = t
  ·subst e
   rw [if_pos rfl, if_pos rfl, List.flatMap_append, List.length_append]
   exact ho.kept (gSet w' g j v') (.inr (Ne.symm (own_ne ho hb' hte)))
  ·rw [if_neg e, if_neg e]
   exact (hother j hj e).kept (gSet w' g t v') (.inr (Ne.symm (own_ne (hother j hj e) hb' hte)))
 ·rw [el_setVb (by omega), el_setVb (by omega)]
  by_cases e1 : i = t
  ·have e2 : ¬ j = t := fun e2 => hij (e1.trans e2.symm)
   rw [if_pos e1, if_neg e2]
   rcases hn with hn | ⟨b, hn, hbn⟩
   ·rw [hn]; exact h.apart t j ht hj (by omega)
   ·right
    rw [hn]
    intro e9
    have := ((h.row j hj).lt b e9.symm).2
    omega
  ·rw [if_neg e1]
   by_cases e2 : j = t
   ·rw [if_pos e2]
    rcases hn with hn | ⟨b, hn, hbn⟩
    ·rw [hn]; exact h.apart i t hi ht e1
    ·right
     rw [hn]
     intro e9
     have := ((h.row i hi).lt b e9).2
     omega
   ·rw [if_neg e2]; exact h.apart i j hi hj hij
theorem RowT.turn {b : Nat} {r : Option Nat} (h : RowT k enc et rt w base g n vs f) (ht : Turn2 w w' b r) (hgb : g ≠ b) (hgr : some g ≠ r) (hb : ∀ j, j < n → (el vs j).ownBlock ≠ some b) (hr : ∀ j, j < n → (el vs j).ownBlock = none ∨ (el vs j).ownBlock ≠ r) : RowT k enc et rt w' base g n vs f :=
 ⟨h.len, ht.blk h.blk hgb hgr, fun j hj => ht.row (h.row j hj) (hb j hj) (hr j hj), h.apart⟩
theorem RowT.setLow {b : Nat} (h : RowT k enc et rt w base g n vs f) (hb : b < base) (hbg : b ≠ g) (o : Nat) (v : Value) : RowT k enc et rt (w.setCell ⟨b, o, none⟩ v) base g n vs f :=
 ⟨h.len, h.blk.setO _ _ (Ne.symm hbg), fun j hj => (h.row j hj).kept (gSet w b o v) (by
  rcases e : (el vs j).ownBlock with _ | c
  ·exact .inl rfl
  ·right
   intro e2
   have h1 := ((h.row j hj).lt c e).1
   simp at e2
   omega), h.apart⟩
theorem RowT.alloc (h : RowT k enc et rt w base g n vs f) (o : Obj) : RowT k enc et rt (w.alloc o) base g n vs f := h.later ((Below.refl _ _).alloc (Nat.le_refl _) _)
theorem RowT.push [Inhabited α] {P : Program} {i : TypeInfo} {z : Value} {bytes : Nat} (hk : ∀ x, (enc x).length = k) (hk0 : 0 < k) (h1c : ∀ x, ∀ u ∈ enc x, u.oneCell' = true) (hte : et ≠ rt) (hu : P.underlying rt = some (.slice et)) (hi : P.info? et = some i) (hz : i.zero = some z) (hsize : i.size = k) (hby : i.bytes = bytes) (hzs : z.cells.size = k) (hb24 : bytes ≤ 32)
  (h : RowT k enc et rt w base g n vs f) {t : Nat} (ht : t < n) (hlen : (f t).length ≤ 1000000) (hbase : base ≤ w.heap.size) (x : α) :
  ∃ v' w2, (Builtin.append_ #[rt, rt] rt #[el vs t, .slice (some ⟨w.heap.size, 0, none⟩) 1 1]).run P (w.alloc (.cells (enc x).toArray et)) = .ok v' w2 ∧ RowT k enc et rt (w2.setCell ⟨g, t, none⟩ v') base g n (vs.set t v') (putF t x f) ∧ (w.alloc (.cells (enc x).toArray et)).grownBy w2 (el vs t).ownBlock ∧ Blk w2 g vs.toArray rt := by
 have ha := h.alloc (.cells (enc x).toArray et)
 have hbig : ((f t).length + 1) * bytes ≤ 140737488355328 := by
  have : ((f t).length + 1) * bytes ≤ 1000001 * 32 := Nat.mul_le_mul (by omega) hb24
  omega
 obtain ⟨v', w2, r2, o2, g2, n2⟩ := run_append_spot (P := P) (w := w.alloc (.cells (enc x).toArray et)) hk hk0 h1c rt rt base et i z bytes hu hi hz hsize hby hzs (el vs t) (f t).length ((f t).flatMap enc) (ha.row t ht) (.slice (some ⟨w.heap.size, 0, none⟩) 1 1) [x] (oneRow w x (hk x) et) (by simp; unfold maxLen; omega) (by simpa using hbig) (by rw [World.size_alloc]; exact Nat.le_succ_of_le hbase)
 exact ⟨v', w2, r2, ha.put hte ht o2 g2 n2, g2, ha.blk.grown g2 (own_ne (ha.row t ht) ha.blk hte)⟩
theorem RowT.start (h : Blk w g (List.replicate n (Value.slice none 0 0)).toArray rt) : RowT k enc et rt w base g n (List.replicate n (.slice none 0 0)) (fun _ => []) := by
 have he : ∀ j, j < n → el (List.replicate n (Value.slice none 0 0)) j = .slice none 0 0 := fun j hj => by simp [el, hj]
 refine ⟨by simp, h, fun j hj => ?_, fun i j hi hj _ => ?_⟩
 ·rw [he j hj]; exact World.ownsRow_nil _ _ _ _
 ·rw [he i hi]; exact .inl rfl
theorem RowT.Row [Inhabited α] (hk : ∀ x, (enc x).length = k) (h : RowT k enc et rt w base g n vs f) {j : Nat} (hj : j < n) : Wt.Row k enc w (el vs j) (f j) := Row.ofOwn hk (h.row j hj) rfl
theorem RowT.geB (h : RowT k enc et rt w base g n vs f) {j : Nat} (hj : j < n) : ∀ b, (el vs j).ownBlock = some b → base ≤ b ∧ b < w.heap.size := fun b hb => (h.row j hj).lt b hb
end
theorem made_rowsB (n : Nat) : madeCells (Value.cells (.slice none 0 0)) (n * 1) = (List.replicate n (Value.slice none 0 0)).toArray := by
 have hz : Value.cells (.slice none 0 0) = #[.slice none 0 0] := rfl
 apply Array.ext_getElem?
 intro t
 simp only [madeCells, hz]
 by_cases ht : t < n
 ·simp [ht, Nat.mod_one]
 ·simp [ht]
theorem infoRowW : (Try.prog.info? 135).map (fun i => (i.zero, i.size, i.bytes)) = some (some (.slice none 0 0), 1, 24) := by kernel_rfl
theorem infoRowT : (Try.prog.info? 66).map (fun i => (i.zero, i.size, i.bytes)) = some (some (.slice none 0 0), 1, 24) := by kernel_rfl
theorem infoTwn : (Try.prog.info? 69).map (fun i => (i.zero, i.size, i.bytes)) = some (some (.agg #[.int .i64 0, .int .i64 0]), 2, 16) := by kernel_rfl
theorem run_rowsW (n : Nat) (hn : n ≤ 1000) (W : World) : (Instr.makeSlice 103 (.int .i64 (n : Int)) (.int .i64 (n : Int))).run Try.prog W = .ok (.slice (some ⟨W.heap.size, 0, none⟩) n n) (W.alloc (.cells (List.replicate n (Value.slice none 0 0)).toArray 135)) := by
 obtain ⟨i1, hi1, hy0, hy1, hy2⟩ := info_parts infoRowW
 have h := run_make (P := Try.prog) W 103 135 i1 _ Try.underlying103 hi1 hy0 .i64 .i64 n n (by omega) (by omega) (by rw [hy2]; omega) (by omega)
 rw [hy1, Int.toNat_natCast, made_rowsB] at h
 exact h
theorem run_rowsT (n : Nat) (hn : n ≤ 1000) (W : World) : (Instr.makeSlice 101 (.int .i64 (n : Int)) (.int .i64 (n : Int))).run Try.prog W = .ok (.slice (some ⟨W.heap.size, 0, none⟩) n n) (W.alloc (.cells (List.replicate n (Value.slice none 0 0)).toArray 66)) := by
 obtain ⟨i1, hi1, hy0, hy1, hy2⟩ := info_parts infoRowT
 have h := run_make (P := Try.prog) W 101 66 i1 _ Try.underlying101 hi1 hy0 .i64 .i64 n n (by omega) (by omega) (by rw [hy2]; omega) (by omega)
 rw [hy1, Int.toNat_natCast, made_rowsB] at h
 exact h
theorem RowT.kBlk {α : Type} {k : Nat} {enc : α → List Value} {et rt : TypeId} {w w2 : World} {base g n : Nat} {vs : List Value} {f : Nat → List α} (h : RowT k enc et rt w base g n vs f) {t : Nat} (ht : t < n) {ob : Obj} (hg : (w.alloc ob).grownBy w2 (el vs t).ownBlock) {b : Nat} {cs : Array Value} {t' : TypeId} (hB : Blk w b cs t') (h1 : et ≠ t') (h2 : rt ≠ t') (v : Value) : Blk w2 b cs t' ∧ Blk (w2.setCell ⟨g, t, none⟩ v) b cs t' := by
 have e1 := (hB.alloc ob).grown hg (own_ne ((h.alloc ob).row t ht) (hB.alloc ob) h1)
 refine ⟨e1, e1.setO _ _ fun e => ?_⟩
 have e2 : b = g := e
 subst e2
 have h3 := h.blk
 unfold Blk at h3 hB
 rw [hB] at h3
 simp at h3
 exact h2 h3.2.symm
theorem RowT.kBel {α : Type} {k : Nat} {enc : α → List Value} {et rt : TypeId} {w0 w w2 : World} {base g n B : Nat} {vs : List Value} {f : Nat → List α} (h : RowT k enc et rt w base g n vs f) {t : Nat} (ht : t < n) {ob : Obj} (hg : (w.alloc ob).grownBy w2 (el vs t).ownBlock) (hb : Below B w0 w) (h1 : B ≤ base) (h2 : B ≤ g) (h3 : B ≤ w.heap.size) (v : Value) : Below B w0 (w2.setCell ⟨g, t, none⟩ v) :=
 (hb.trans (((Below.refl B w).alloc h3 ob).trans (gBelow hg (fun k hk => Nat.le_trans h1 ((h.row t ht).lt k hk).1) (by rw [World.size_alloc]; exact Nat.le_succ_of_le h3)))).setCell (p := ⟨g, t, none⟩) h2 v
theorem pushW {w : World} {base g n : Nat} {vs : List Value} {f : Nat → List Ar} (h : RowT 3 encW 134 135 w base g n vs f) {t : Nat} (ht : t < n) (hlen : (f t).length ≤ 1000000) (hbase : base ≤ w.heap.size) (x : Ar) :
  ∃ xa xc va vc w2, el vs t = .slice xa (f t).length xc ∧ (Builtin.append_ #[135, 135] 135 #[.slice xa (f t).length xc, .slice (some ⟨w.heap.size, 0, none⟩) 1 1]).run Try.prog (w.alloc (.cells (encW x).toArray 134)) = .ok (.slice va ((f t).length + 1) vc) w2 ∧ RowT 3 encW 134 135 (w2.setCell ⟨g, t, none⟩ (.slice va ((f t).length + 1) vc)) base g n (vs.set t (.slice va ((f t).length + 1) vc)) (putF t x f) ∧ (w.alloc (.cells (encW x).toArray 134)).grownBy w2 (el vs t).ownBlock ∧ w2.cell? ⟨g, t, none⟩ = some (.slice xa (f t).length xc) ∧ w2.frozen? ⟨g, t, none⟩ = false := by
 obtain ⟨i1, hi1, hy0, hy1, hy2⟩ := info_parts infoWay
 obtain ⟨v', w2, r2, t2, g2, b2⟩ := h.push encW_len (by decide) encW_one (by decide) Try.underlying135 hi1 hy0 hy1 hy2 rfl (by decide) ht hlen hbase x
 obtain ⟨xa, xc, hx⟩ := own_slW (h.row t ht)
 obtain ⟨va, vc, hv⟩ := own_slW (t2.row t ht)
 have hl := h.len
 rw [el_setVb (by omega), if_pos rfl] at hv
 have hpl : (putF t x f t).length = (f t).length + 1 := by unfold putF; rw [if_pos rfl]; simp
 rw [hpl] at hv
 subst hv
 rw [hx] at r2
 exact ⟨xa, xc, va, vc, w2, hx, r2, t2, g2, by rw [← hx]; exact b2.cell _ (by rw [List.getElem?_toArray, el_get (by omega), List.getElem?_eq_getElem (by omega)]), b2.fz t⟩
theorem pushT {w : World} {base g n : Nat} {vs : List Value} {f : Nat → List Int} (h : RowT 2 encT 69 66 w base g n vs f) {t : Nat} (ht : t < n) (hlen : (f t).length ≤ 1000000) (hbase : base ≤ w.heap.size) (x : Int) :
  ∃ xa xc va vc w2, el vs t = .slice xa (f t).length xc ∧ (Builtin.append_ #[66, 66] 66 #[.slice xa (f t).length xc, .slice (some ⟨w.heap.size, 0, none⟩) 1 1]).run Try.prog (w.alloc (.cells (encT x).toArray 69)) = .ok (.slice va ((f t).length + 1) vc) w2 ∧ RowT 2 encT 69 66 (w2.setCell ⟨g, t, none⟩ (.slice va ((f t).length + 1) vc)) base g n (vs.set t (.slice va ((f t).length + 1) vc)) (putF t x f) ∧ (w.alloc (.cells (encT x).toArray 69)).grownBy w2 (el vs t).ownBlock ∧ w2.cell? ⟨g, t, none⟩ = some (.slice xa (f t).length xc) ∧ w2.frozen? ⟨g, t, none⟩ = false := by
 obtain ⟨i1, hi1, hy0, hy1, hy2⟩ := info_parts infoTwn
 obtain ⟨v', w2, r2, t2, g2, b2⟩ := h.push encT_len (by decide) encT_one (by decide) Try.underlying66 hi1 hy0 hy1 hy2 rfl (by decide) ht hlen hbase x
 obtain ⟨xa, xc, hx⟩ := own_slW (h.row t ht)
 obtain ⟨va, vc, hv⟩ := own_slW (t2.row t ht)
 have hl := h.len
 rw [el_setVb (by omega), if_pos rfl] at hv
 have hpl : (putF t x f t).length = (f t).length + 1 := by unfold putF; rw [if_pos rfl]; simp
 rw [hpl] at hv
 subst hv
 rw [hx] at r2
 exact ⟨xa, xc, va, vc, w2, hx, r2, t2, g2, by rw [← hx]; exact b2.cell _ (by rw [List.getElem?_toArray, el_get (by omega), List.getElem?_eq_getElem (by omega)]), b2.fz t⟩
theorem rowT_get {w : World} {v : Value} {ks : List Int} (h : Row 2 encT w v ks) : ∃ a cap, v = .slice a ks.length cap ∧ ∀ j, j < ks.length → ∃ b off, a = some ⟨b, off, none⟩ ∧ b < w.heap.size ∧ w.cell? ⟨b, off + j * 2, none⟩ = some (.int .i64 (kA (el ks j))) ∧ w.cell? ⟨b, off + j * 2 + 1, none⟩ = some (.int .i64 (kB (el ks j))) := by
 by_cases hz : 0 < ks.length
 ·obtain ⟨b, off, cap, rfl, hb, hc⟩ := Row.plain h (fun x => by rw [encT_len]; decide) hz
  exact ⟨_, _, rfl, fun j hj => ⟨b, off, rfl, hb, hc j hj 0 _ rfl, hc j hj 1 _ rfl⟩⟩
 ·obtain ⟨a, cap, rfl⟩ := Row.sl h
  exact ⟨a, cap, rfl, fun j hj => absurd hj (by omega)⟩
theorem rowW_get {w : World} {v : Value} {ws : List Ar} (h : Row 3 encW w v ws) : ∃ a cap, v = .slice a ws.length cap ∧ ∀ j, j < ws.length → ∃ b off, a = some ⟨b, off, none⟩ ∧ b < w.heap.size ∧ ThrW w b (off + j * 3) (el ws j) := by
 by_cases hz : 0 < ws.length
 ·obtain ⟨b, off, cap, rfl, hb, hc⟩ := Row.plain h (fun x => by rw [encW_len]; decide) hz
  exact ⟨_, _, rfl, fun j hj => ⟨b, off, rfl, hb, hc j hj 0 _ rfl, hc j hj 1 _ rfl, hc j hj 2 _ rfl⟩⟩
 ·obtain ⟨a, cap, rfl⟩ := Row.sl h
  exact ⟨a, cap, rfl, fun j hj => absurd hj (by omega)⟩
def StpT (w : World) (T n : Nat) (rows : List Value) (S : List (List Ar)) : Prop := T < w.heap.size ∧ ∀ q, q < n → w.cell? ⟨T, q, none⟩ = some (el rows q) ∧ Row 3 encW w (el rows q) (el S q)
theorem StpT.of {w : World} {base T n : Nat} {rows : List Value} {S : List (List Ar)} (h : RowT 3 encW 134 135 w base T n rows (fun j => el S j)) : StpT w T n rows S :=
 ⟨h.blk.lt, fun q hq => ⟨h.cell hq, h.Row encW_len hq⟩⟩
def trP (q p : Nat) (r : List Ar) : List Ar := r.flatMap fun s => if s.1 = (p : Int) then [((q : Int), 0, 0, s.2.2.2)] else []
def trQ (S : List (List Ar)) (q i : Nat) : Nat → List Ar := fun p => trS S q p ++ trP q p ((el S q).take i)
theorem trS_succ (S : List (List Ar)) (q p : Nat) : trS S (q + 1) p = trS S q p ++ trP q p (el S q) := by
 unfold trS trP
 rw [List.range_succ, List.flatMap_append]
 simp
theorem trQ_zero (S : List (List Ar)) : trQ S 0 0 = fun _ => [] := by
 funext p
 simp [trQ, trS, trP]
theorem trQ_next (S : List (List Ar)) (q : Nat) : trQ S q (el S q).length = trQ S (q + 1) 0 := by
 funext p
 unfold trQ
 rw [List.take_length, trS_succ, List.take_zero]
 simp [trP]
theorem trQ_step {S : List (List Ar)} {q i t : Nat} (hi : i < (el S q).length) (ht : (el (el S q) i).1 = (t : Int)) : putF t ((q : Int), 0, 0, (el (el S q) i).2.2.2) (trQ S q i) = trQ S q (i + 1) := by
 funext p
 unfold putF trQ trP
 rw [take_el hi, List.flatMap_append]
 by_cases h : p = t
 ·subst h
  rw [if_pos rfl, List.append_assoc]
  simp [ht]
 ·rw [if_neg h]
  have : ¬ (t : Int) = (p : Int) := by omega
  simp [ht, this]
theorem trP_len (q p : Nat) (r : List Ar) : (trP q p r).length ≤ r.length := by
  unfold trP
  induction r with
  | nil => simp
  | cons s r ih =>
    rw [List.flatMap_cons, List.length_append, List.length_cons]
    have h1 : (if s.1 = (p : Int) then [((q : Int), (0 : Int), (0 : Int), s.2.2.2)] else []).length ≤ 1 := by split <;> simp
    omega
theorem trQ_len {S : List (List Ar)} {n : Nat} (h : ∀ q, q < n → (el S q).length ≤ 500) {q i p : Nat} (hq : q < n) : (trQ S q i p).length ≤ (q + 1) * 500 := by
  have key : ∀ q, q ≤ n → (trS S q p).length ≤ q * 500 := by
    intro q
    induction q with
    | zero => intro _; simp [trS]
    | succ q ih =>
      intro hq
      have h1 := ih (by omega)
      have h2 := h q (by omega)
      have h3 := trP_len q p (el S q)
      rw [trS_succ, List.length_append]
      omega
  have h1 := key q (by omega)
  have h2 := h q hq
  have h3 := trP_len q p ((el S q).take i)
  rw [List.length_take] at h3
  unfold trQ
  rw [List.length_append]
  omega
def HeldTr (T t : Nat) (v : Value) (Y : Nat) (x0 x1 x2 : Int) (w : World) : Prop := w.cell? ⟨T, t, none⟩ = some v ∧ w.cell? ⟨Y, 0, none⟩ = some (.int .i64 x0) ∧ w.cell? ⟨Y, 1, none⟩ = some (.int .i64 x1) ∧ w.cell? ⟨Y, 2, none⟩ = some (.int .i64 x2)
set_option maxRecDepth 100000 in
set_option maxHeartbeats 6400000 in
theorem turned_any (T0 n : Nat) (rows0 : List Value) (S : List (List Ar)) (w : World) (hn : n ≤ 64) (hS : StsOk S) (hl : S.length = n) (hT : StpT w T0 n rows0 S) (h500 : ∀ q, q < n → (el S q).length ≤ 500) :
  Calls Try.prog 57 #[.slice (some ⟨T0, 0, none⟩) n n] w fun e w' => ∃ T rows, e = .returned (.slice (some ⟨T, 0, none⟩) n n) ∧ RowT 3 encW 134 135 w' w.heap.size T n rows (fun j => el (trL S) j) ∧ w.heap.size ≤ T ∧ Below w.heap.size w w' := by
 have HST := hidP hT
 have H5 := hidP h500
 have HOK : Hid (∀ q, q < n → ∀ s ∈ el S q, ∃ t : Nat, s.1 = (t : Int) ∧ t < n) := fun q hq s hs => by
  have h9 := (hS q (by rw [hl]; exact hq) s hs).2
  rw [hl] at h9
  exact h9
 have HDN : Hid (∀ w' T rows, RowT 3 encW 134 135 w' w.heap.size T n rows (trQ S n 0) → RowT 3 encW 134 135 w' w.heap.size T n rows (fun j => el (trL S) j)) := fun w' T rows k => ⟨k.len, k.blk, fun j hj => by
  have h9 := k.row j hj
  have e : trQ S n 0 j = el (trL S) j := by
   rw [trL_el (by rw [hl]; exact hj), hl]
   simp [trQ, trP]
  rw [e] at h9
  exact h9, k.apart⟩
 clear hT h500 hS hl
 have hmk := run_rowsW n (by omega)
 go_enter Try.func57, Try.ntmps57
 go_wp2
 go_loopw [13] (fun i wr => ∃ (q : Nat) (rows : List Value), q ≤ n ∧ i = .int .i64 q ∧ Hid (RowT 3 encW 134 135 wr w.heap.size w.heap.size n rows (trQ S q 0)) ∧ Hid (Below w.heap.size w wr)) (fun i _ => n - (intOf i).toNat)
 case atStart =>
  refine ⟨0, List.replicate n (.slice none 0 0), Nat.zero_le _, rfl, ?_, (Below.refl _ _).alloc (Nat.le_refl _) _⟩
  show RowT _ _ _ _ _ _ _ _ _ _
  rw [trQ_zero]
  refine RowT.start ?_
  have h9 := Blk.made w (List.replicate n (Value.slice none 0 0)).toArray 135
  simp only [World.size_alloc, List.toArray_replicate] at h9 ⊢
  exact h9
 case round =>
  obtain ⟨q, rows, hq, rfl, htab, hb⟩ := hrel
  by_cases hqn : q < n
  ·obtain ⟨c0, hR⟩ := HST.out.2 q hqn
   have c0 := (hb.out.cell (p := ⟨T0, q, none⟩) HST.out.1).trans c0
   obtain ⟨a2, cap2, hva, hga⟩ := rowW_get hR
   rw [hva] at c0
   have HGA := hidP hga
   have HL5 := hidP (H5.out q hqn)
   have HON := hidP (fun (i t : Nat) (hi : i < (el S q).length) (ht : (el (el S q) i).1 = (t : Int)) => trQ_step hi ht)
   have HOL : Hid (∀ i p, (trQ S q i p).length ≤ 40000) := fun i p => by
    have h1 := trQ_len (S := S) (n := n) H5.out (q := q) (i := i) (p := p) hqn
    omega
   have HN0 := hidP (trQ_next S q)
   have HOS := hidP (HOK.out q hqn)
   clear hR hga hva
   generalize el S q = r at *
   generalize hL : r.length = L at *
   have HL : Hid (r.length = L) := hL
   have hL500 : L ≤ 500 := HL5.out
   clear hL
   have hq0 : (0 : Int) ≤ (q : Int) := by omega
   have hq1 : (q : Int) < (n : Int) := by omega
   go_wp2
   go_loopw [20] (fun i wr => ∃ (j : Nat) (rows : List Value), j ≤ L ∧ i = .int .i64 j ∧ Hid (RowT 3 encW 134 135 wr w.heap.size w.heap.size n rows (trQ S q j)) ∧ Hid (Below w.heap.size w wr)) (fun i _ => L - (intOf i).toNat)
   case atStart => exact ⟨0, rows, Nat.zero_le _, rfl, htab, hb⟩
   case round =>
    clear htab hb
    obtain ⟨j, rows, hj, rfl, htab, hb⟩ := hrel
    by_cases hjL : j < L
    ·obtain ⟨b3, off3, rfl, hb3l, e0, e1, e2⟩ := HGA.out j hjL
     have e0 := (hb.out.cell (p := ⟨b3, off3 + j * 3, none⟩) hb3l).trans e0
     have e1 := (hb.out.cell (p := ⟨b3, off3 + j * 3 + 1, none⟩) hb3l).trans e1
     have e2 := (hb.out.cell (p := ⟨b3, off3 + j * 3 + 2, none⟩) hb3l).trans e2
     obtain ⟨t, ht, htn⟩ := HOS.out (el r j) (el_mem (by rw [HL.out]; exact hjL))
     have HT := hidP (HON.out j t hjL ht)
     have hj0 : (0 : Int) ≤ (j : Int) := by omega
     have hj1 : (j : Int) < (L : Int) := by omega
     have ht0 : (0 : Int) ≤ (t : Int) := by omega
     have ht1 : (t : Int) < (n : Int) := by omega
     have HLQ : Hid ((trQ S q j t).length ≤ 1000000) := by show _ ≤ _; have h1 := HOL.out j t; omega
     rw [ht] at e0
     have HENC : Hid (encW ((q : Int), 0, 0, (el r j).2.2.2) = [.int .i64 q, .int .i64 (kA (el r j).2.2.2), .int .i64 (kB (el r j).2.2.2)]) := rfl
     generalize ((q : Int), (0 : Int), (0 : Int), (el r j).2.2.2) = x at *
     generalize kA (el r j).2.2.2 = x1 at *
     generalize kB (el r j).2.2.2 = x2 at *
     clear ht
     have T1 := hidP (htab.out.alloc (.cells #[.int .i64 t, .int .i64 x1, .int .i64 x2] 134))
     have A1 := hidP (Blk.made wr #[.int .i64 t, .int .i64 x1, .int .i64 x2] 134)
     have B1 := hidP (hb.out.alloc hb.out.size (.cells #[.int .i64 t, .int .i64 x1, .int .i64 x2] 134))
     have HNE : Hid (some wr.heap.size ≠ (el rows t).ownBlock) := fun e => by
      have h9 := (htab.out.geB htn _ e.symm).2
      omega
     have HNG : Hid (wr.heap.size ≠ w.heap.size) := fun e => by
      have h9 := htab.out.blk.lt
      omega
     clear htab hb
     go_wp2
     generalize wr.alloc (.cells #[.int .i64 t, .int .i64 x1, .int .i64 x2] 134) = W1 at *
     generalize wr.heap.size = Y at *
     have T1 := hidP (T1.out.later (w' := W1.drew) ((Below.refl W1.heap.size W1).drew))
     have A1 := hidP A1.out.drew
     have B1 := hidP B1.out.drew
     obtain ⟨xa, xc, va, vc, w7, hx5, r7, t7, g7, c7, f7⟩ := pushW T1.out htn HLQ.out B1.out.size x
     have HS : HeldTr w.heap.size t (.slice xa (trQ S q j t).length xc) Y t x1 x2 W1.drew := ⟨by rw [← hx5]; exact T1.out.cell htn, A1.out.cell 0 rfl, A1.out.cell 1 rfl, A1.out.cell 2 rfl⟩
     clear e0 e1 e2
     rw [HENC.out] at r7 g7
     have T8 := hidP t7
     generalize trQ S q j = G at *
     have HS6 : HeldTr w.heap.size t (.slice xa (G t).length xc) Y t x1 x2 (W1.drew.alloc (.cells #[.int .i64 q, .int .i64 x1, .int .i64 x2] 134)) := ⟨by rw [← hx5]; exact (T1.out.alloc _).cell htn, (A1.out.alloc _).cell 0 rfl, (A1.out.alloc _).cell 1 rfl, (A1.out.alloc _).cell 2 rfl⟩
     have A7 := (A1.out.alloc (.cells #[.int .i64 q, .int .i64 x1, .int .i64 x2] 134)).grown g7 HNE.out
     have B8 := hidP (T1.out.kBel htn g7 B1.out (Nat.le_refl _) (Nat.le_refl _) B1.out.size (.slice va ((G t).length + 1) vc))
     have HS7 : HeldTr w.heap.size t (.slice xa (G t).length xc) Y t x1 x2 w7 := ⟨c7, A7.cell 0 rfl, A7.cell 1 rfl, A7.cell 2 rfl⟩
     have R7 := hidP r7
     clear r7 t7 g7 A7 hx5
     refine region_anyL (HeldTr w.heap.size t (.slice xa (G t).length xc) Y t x1 x2) 15 (by kernel_rfl) ?_
     refine anyL_tk (i := 0) (v := ?v0_1) aZ0 (by kernel_rfl) ?y0_1 HS ?r0_1
     case y0_1 => intro wx hx; obtain ⟨h0, h1, h2, h3⟩ := hx; go_simp; try (with_reducible rfl)
     simp only [Act.put, List.setIfInBounds_toArray, List.set_cons_zero, List.set_cons_succ]
     refine anyL_tk (i := 1) (v := ?v1_2) aZ1 (by kernel_rfl) ?y1_2 HS ?r1_2
     case y1_2 => intro wx hx; obtain ⟨h0, h1, h2, h3⟩ := hx; go_simp; try (with_reducible rfl)
     simp only [Act.put, List.setIfInBounds_toArray, List.set_cons_zero, List.set_cons_succ]
     refine anyL_tk (i := 2) (v := ?v2_3) aZ2 (by kernel_rfl) ?y2_3 HS ?r2_3
     case y2_3 => intro wx hx; obtain ⟨h0, h1, h2, h3⟩ := hx; go_simp; try (with_reducible rfl)
     simp only [Act.put, List.setIfInBounds_toArray, List.set_cons_zero, List.set_cons_succ]
     refine anyL_tk (i := 3) (v := ?v3_4) aZ3 (by kernel_rfl) ?y3_4 HS ?r3_4
     case y3_4 => intro wx hx; obtain ⟨h0, h1, h2, h3⟩ := hx; go_simp; try (with_reducible rfl)
     simp only [Act.put, List.setIfInBounds_toArray, List.set_cons_zero, List.set_cons_succ]
     refine anyL_tk (i := 4) (v := ?v4_5) aZ4 (by kernel_rfl) ?y4_5 HS ?r4_5
     case y4_5 => intro wx hx; obtain ⟨h0, h1, h2, h3⟩ := hx; go_simp; try (with_reducible rfl)
     simp only [Act.put, List.setIfInBounds_toArray, List.set_cons_zero, List.set_cons_succ]
     refine anyL_tk (i := 5) (v := ?v5_6) aZ5 (by kernel_rfl) ?y5_6 HS ?r5_6
     case y5_6 => intro wx hx; obtain ⟨h0, h1, h2, h3⟩ := hx; go_simp; try (with_reducible rfl)
     simp only [Act.put, List.setIfInBounds_toArray, List.set_cons_zero, List.set_cons_succ]
     refine anyL_tk (i := 6) (v := ?v6_7) aZ6 (by kernel_rfl) ?y6_7 HS ?r6_7
     case y6_7 => intro wx hx; obtain ⟨h0, h1, h2, h3⟩ := hx; go_simp; try (with_reducible rfl)
     simp only [Act.put, List.setIfInBounds_toArray, List.set_cons_zero, List.set_cons_succ]
     refine anyL_tk (i := 7) (v := ?v7_8) aZ7 (by kernel_rfl) ?y7_8 HS ?r7_8
     case y7_8 => intro wx hx; obtain ⟨h0, h1, h2, h3⟩ := hx; go_simp; try (with_reducible rfl)
     simp only [Act.put, List.setIfInBounds_toArray, List.set_cons_zero, List.set_cons_succ]
     refine anyL_tk (i := 8) (v := ?v8_9) aZ8 (by kernel_rfl) ?y8_9 HS ?r8_9
     case y8_9 => intro wx hx; obtain ⟨h0, h1, h2, h3⟩ := hx; go_simp; try (with_reducible rfl)
     simp only [Act.put, List.setIfInBounds_toArray, List.set_cons_zero, List.set_cons_succ]
     refine anyL_tk (i := 9) (v := ?v9_10) aZ9 (by kernel_rfl) ?y9_10 HS ?r9_10
     case y9_10 => intro wx hx; obtain ⟨h0, h1, h2, h3⟩ := hx; go_simp; try (with_reducible rfl)
     simp only [Act.put, List.setIfInBounds_toArray, List.set_cons_zero, List.set_cons_succ]
     refine anyL_tk (i := 10) (v := ?v10_11) aZ10 (by kernel_rfl) ?y10_11 HS ?r10_11
     case y10_11 => intro wx hx; obtain ⟨h0, h1, h2, h3⟩ := hx; go_simp; try (with_reducible rfl)
     simp only [Act.put, List.setIfInBounds_toArray, List.set_cons_zero, List.set_cons_succ]
     refine anyL_tk (i := 11) (v := ?v11_12) aZ11 (by kernel_rfl) ?y11_12 HS ?r11_12
     case y11_12 => intro wx hx; obtain ⟨h0, h1, h2, h3⟩ := hx; go_simp; try (with_reducible rfl)
     simp only [Act.put, List.setIfInBounds_toArray, List.set_cons_zero, List.set_cons_succ]
     refine anyL_one (i := 12) aZ12 (by kernel_rfl) rfl (fun K hK => ?_)
     go_simp
     refine hK _ _ (.inr HS6) ?_
     try simp only [Act.put, List.setIfInBounds_toArray, List.set_cons_zero, List.set_cons_succ]
     refine anyL_one (i := 13) aZ13 (by kernel_rfl) rfl (fun K hK => ?_)
     refine wp_append_run (.tmp 31) (.tmp 36) 135 rfl rfl rfl R7.out ?_
     refine hK _ _ (.inr HS7) ?_
     try simp only [Act.put, List.setIfInBounds_toArray, List.set_cons_zero, List.set_cons_succ]
     refine anyL_tk (i := 14) (v := ?v14_13) aZ14 (by kernel_rfl) ?y14_13 HS7 ?r14_13
     case y14_13 => intro wx hx; obtain ⟨h0, h1, h2, h3⟩ := hx; go_simp; try (with_reducible rfl)
     simp only [Act.put, List.setIfInBounds_toArray, List.set_cons_zero, List.set_cons_succ]
     refine anyL_one (i := 15) aZ15 (by kernel_rfl) rfl (fun K hK => ?_)
     go_simp
     refine hK _ _ (.inl rfl) (anyL_done (by kernel_rfl) (NoPanic.normal ?_))
     try simp only [Act.put, List.setIfInBounds_toArray, List.set_cons_zero, List.set_cons_succ]
     clear HS HS6 HS7 c7 f7
     go_wp2
     go_roundw
     case rel => exact ⟨j + 1, _, by omega, by go_num, by rw [← HT.out]; exact T8, B8⟩
     case measure => simp [intOf]; omega
    ·have hnl : ¬ (j : Int) < (L : Int) := by omega
     obtain rfl : L = j := by omega
     go_wp2
     go_roundw
     case rel => exact ⟨q + 1, rows, by omega, by go_num, by rw [← HN0.out]; exact htab, hb⟩
     case measure => simp [intOf]; omega
  ·have hnl : ¬ (q : Int) < (n : Int) := by omega
   have HT5 := hidP (HDN.out wr w.heap.size rows (by
    have h9 := htab.out
    rw [show q = n by omega] at h9
    exact h9))
   go_wp2
   go_ret
   exact ⟨_, rfl, ⟨rows, HT5.out⟩, Nat.le_refl _, hb.out⟩
end Go.Proofs.Ytfpibdaedfilaaa.Bw
