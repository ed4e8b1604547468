/- Words of a line; numbers that may be none. A range over a function that yields what it has just laid into memory: the body may know that it lies there. The lines of a text, each as its words, as the program's iterator hands them over. The program's reader: what a start and a state add to the machine that is read. The program's reader: what an arc adds to the machine that is read (the loop's rounds are written out by mk_qd.py). The program's reader: what a line adds to the machine that is read. -/
import Derived.Test.YthaefajpdncoeaaDoorJ8b
import Derived.Test.YthaefajpdncoeaaDoorJ8c
import Derived.Lib.AtoiAll
import Derived.Lib.SmallJoins
import Derived.Test.YthaefajpdncoeaaDoorRows
import Derived.RangeFuncNested
import Derived.RangeFuncBound
import Derived.RangeFuncCalls
import Derived.RangeFuncLeaves
import Derived.Shelf.Abstract
import Derived.Shelf.RegionOpen
import Derived.OwnWalkIn
import Derived.TacticsInMore
import Derived.LoopNIn
import Derived.LoopIn
import Derived.Test.YthaefajpdncoeaaDoorOy
namespace Go.Proofs.YthaefajpdncoeaaDoor.Wt
open Go.ChangeShapes Go.WideShapes Go.ChangeAt Go.RowKit
open Go.Proofs.YthaefajpdncoeaaDoor.Pl
set_option linter.unusedVariables false
def ErrV (name : String) (w : World) : Prop := ∃ tp p, w.var? Tryd.prog name = some #[.iface tp p]
theorem ErrV.later {name : String} {w w' : World} (h : ErrV name w) (hb : Below w.heap.size w w') : ErrV name w' := by
  obtain ⟨tp, p, h⟩ := h
  refine ⟨tp, p, ?_⟩
  unfold World.var? at h ⊢
  cases hg : Tryd.prog.globalNamed name with
  | none => rw [hg] at h; simp at h
  | some g =>
    simp only [hg, Option.bind_some] at h ⊢
    have hlt : g < w.heap.size := by
      rcases Nat.lt_or_ge g w.heap.size with h' | h'
      · exact h'
      · rw [Array.getElem?_eq_none h'] at h; simp at h
    rw [hb.block g hlt]
    exact h
def Errs (w : World) : Prop := ErrV "strconv.ErrSyntax" w ∧ ErrV "strconv.ErrRange" w
theorem Errs.later {w w' : World} (h : Errs w) (hb : Below w.heap.size w w') : Errs w' := ⟨h.1.later hb, h.2.later hb⟩
theorem below_bytes (w : World) (t : TypeId) (s : ByteArray) : Below w.heap.size w (Lib.bytesWorld w t s) := by
  exact Go.Joins.below_bytesWorld _ w t s (Nat.le_refl _)
theorem atoi_ok (s : ByteArray) (w : World) (hs : s.size ≤ 1000000) (v : Int) (h : atO s.data.toList = some v) :
    Calls Tryd.prog 57 #[.string s] w fun e w' => e = .returned (.tuple #[.int .i64 v, .nilIface]) ∧ Below w.heap.size w w' := by
  refine (Tryd.strconv_Atoi_ok s (by omega) v (atO_some h) w).mono ?_
  rintro e w' ⟨rfl, rfl | ⟨t, rfl⟩⟩
  · exact ⟨rfl, Below.refl _ _⟩
  · exact ⟨rfl, below_bytes _ _ _⟩
theorem atoi_no (s : ByteArray) (w : World) (hs : s.size ≤ 1000000) (he : Errs w) (h : atO s.data.toList = none) :
    Calls Tryd.prog 57 #[.string s] w fun e w' => ∃ v t x, e = .returned (.tuple #[.int .i64 v, .iface t x]) ∧ Below w.heap.size w w' := by
  obtain ⟨⟨tp, p, h1⟩, ⟨tp2, p2, h2⟩⟩ := he
  rcases hk : Lib.atoiAll s.data.toList with v | _ | _
  · exact absurd hk (atO_none h v)
  · refine (Go.Proofs.Any.strconv_Atoi_syntax_var Tryd.laysC172 s (by omega) hk tp p w h1).mono ?_
    rintro e w' ⟨N, rfl, _, _, hb⟩
    exact ⟨_, _, _, rfl, hb⟩
  · refine (Tryd.strconv_Atoi_range_var s (by omega) hk tp2 p2 w h2).mono ?_
    rintro e w' ⟨N, rfl, _, _, hb⟩
    exact ⟨_, _, _, rfl, hb⟩
theorem genSplit_one (s : ByteArray) (w : World) (hs : s.size ≤ 1000000) (N : Nat) (hN : Lib.countB s ⟨#[32]⟩ = N) :
    Calls Tryd.prog 56 #[.string s, .string ⟨#[32]⟩, .int .i64 0, .int .i64 (-1)] w fun e w' =>
      e = .returned (.slice (some ⟨w.heap.size, 0, none⟩) (N + 1) (N + 1)) ∧ w' = w.alloc (.cells ((Lib.splitB ⟨#[32]⟩ 0 N s).map Value.string).toArray 9) := by
  have hle := Lib.countB_le ⟨#[32]⟩ (Nat.le_refl 1) s.size s (Nat.le_refl _)
  have hlen := Lib.splitB_all ⟨#[32]⟩ (Nat.le_refl 1) 0 _ s hN
  have c := Any.strings_genSplit_core Tryd.lays221 (by kernel_rfl) s ⟨#[32]⟩ 0 (-1) (N + 1) w (by omega) (Nat.le_refl 1) (Nat.zero_le _)
    (fun x c hx => by
      have h := Any.strings_Index_one Tryd.lays143 x 32 (w.alloc (.cells c 9))
      have e : Lib.indexB x ⟨#[32]⟩ = Lib.indexByte x.data.toList 32 := Lib.index_one x.data.toList 32
      rw [e]
      exact h)
    (by
      have h := Any.strings_Count_one Tryd.lays138 s 32 w
      have e : (Lib.countB s ⟨#[32]⟩ : Nat) = Lib.countByte s.data.toList 32 := Lib.count_one 32 s.data.toList
      rw [e]
      exact h)
    (by decide) (by decide) (by rw [if_pos (by decide)]; omega)
  rw [Nat.add_sub_cancel, hlen, show Lib.cellsOf (Lib.splitB ⟨#[32]⟩ 0 N s) (N + 1) = ((Lib.splitB ⟨#[32]⟩ 0 N s).map Value.string).toArray from by rw [← hlen]; exact Lib.cellsOf_full _] at c
  exact c
theorem split_any (s : ByteArray) (w : World) (hs : s.size ≤ 1000000) (xs : List ByteArray) (hx : Lib.splitB ⟨#[32]⟩ 0 (Lib.countB s ⟨#[32]⟩) s = xs) :
    Calls Tryd.prog 41 #[.string s, .string ⟨#[32]⟩] w fun e w' =>
      e = .returned (.slice (some ⟨w.heap.size, 0, none⟩) xs.length xs.length) ∧ w' = w.alloc (.cells (xs.map Value.string).toArray 9) := by
  have hl : xs.length = Lib.countB s ⟨#[32]⟩ + 1 := by rw [← hx]; exact Lib.splitB_all ⟨#[32]⟩ (Nat.le_refl 1) 0 _ s rfl
  have HG : Hid (Calls Tryd.prog 56 #[.string s, .string ⟨#[32]⟩, .int .i64 0, .int .i64 (-1)] w fun e w' =>
      e = .returned (.slice (some ⟨w.heap.size, 0, none⟩) xs.length xs.length) ∧ w' = w.alloc (.cells (xs.map Value.string).toArray 9)) := by
    have := genSplit_one s w hs _ rfl
    rw [hx, ← hl] at this
    exact this
  clear hx hl
  go_enter Tryd.func41, Tryd.ntmps41
  go_wp2_with (first | (go_at_call 56; (with_reducible refine HG.out.mono ?_); rintro e w' ⟨rfl, rfl⟩))
  go_ret
  exact ⟨rfl, rfl⟩
end Go.Proofs.YthaefajpdncoeaaDoor.Wt
namespace Go.Proofs.YthaefajpdncoeaaDoor.Wt
open Go.RowKit
variable {F : Fence} {n : Nat} {P : Program}
/-- The iterator's word: each element lies, as Lx says, when it is yielded. -/
def SeqLaid {α : Type} (F : Fence) (n : Nat) (P : Program) (g : Nat) (lb : Array Value) (encs : α → Array Value) (Lx : α → World → Prop) (n₀ : Nat) (S Sp : List α → Prop) (N : Nat) (w : World) : Prop :=
  ∀ (l : Nat) (J Jx : List α → World → Prop) (W : World), Below w.heap.size w W → AbidesFrom W.heap.size J → AbidesFrom W.heap.size Jx →
    (∀ pre x V, J pre V → Lx x V → pre.length < N → YieldAt F (n - 1) P l (encs x) V fun e V' =>
      (e = .returned (.bool true) ∧ J (pre ++ [x]) V' ∧ Below n₀ V V') ∨ (e = .returned (.bool false) ∧ Jx (pre ++ [x]) V')) →
    J [] W → CallsIn F n P g (#[.func (.yield l) #[] #[]] ++ lb) W fun e W' => (∃ v, e = .returned v) ∧ ((∃ xs, S xs ∧ J xs W') ∨ (∃ pre, Sp pre ∧ Jx pre W'))
/-- How a round may end: it goes on, or it returns. -/
def endsAt {α : Type} (B n₀ : Nat) (I Ix : List α → World → Prop) (xs : List α) (W : World) : Exit → Act → World → Prop
  | .normal, _, W' => KeepsFrom B W W' ∧ Below n₀ W W' ∧ I xs W'
  | .ret, _, W' => KeepsFrom B W W' ∧ Ix xs W'
  | _, _, _ => False
theorem wpIn_rangeFunc_laid {α : Type} {g : Operand} {ps : Array Tmp} {assign body : Code} {Q : Exit → Act → World → Prop} {a : Act} {w : World}
    (hro : F.round = none) (h1 : 1 ≤ n) {gf : Nat} {lb : Array Value} (hg : a.eval g = .func (.func gf) #[] lb) (hFg : F.fn gf) (eg : ∀ args w, (callFunc gf args).run P w = .ok (.enter gf args) w)
    {encs : α → Array Value} {Lx : α → World → Prop} {n₀ : Nat} {S Sp : List α → Prop} {N : Nat} {w0 : World} (hseq : SeqLaid F (n - 1) P gf lb encs Lx n₀ S Sp N w0)
    (hn₀ : n₀ ≤ w.heap.size) (hb0 : Below w0.heap.size w0 w) (hps : ∀ x, (encs x).size = ps.size)
    (I Ix : List α → World → Prop) (hI : OwnFrom w.heap.size I) (hIx : OwnFrom w.heap.size Ix) (hLx : OwnFrom w.heap.size Lx) (h0 : I [] w) (a₁ : α → Act)
    (hassign : ∀ (l : Nat) (x : α) (W : World) (K : Act → World → Prop), K (a₁ x) W →
      assign.wpIn (F.inRound l) (n - 1 - 1) P (Exit.then K (fun _ _ _ => False)) { tmps := (ps.zip (encs x)).foldl (fun t (p, v) => t.setIfInBounds p v) a.tmps, defers := [] } W)
    (hbody : ∀ (l : Nat) (pre : List α) (x : α) (W : World), I pre W → Lx x W → pre.length < N → body.wpIn (F.inRound l) (n - 1 - 1) P (endsAt w.heap.size n₀ I Ix (pre ++ [x]) W) (a₁ x) W)
    (hdone : ∀ (D : Nat) (xs : List α) (W : World), w.heap.size ≤ D → S xs → I xs W → W.heap[D]? = some (.deferred (some [])) → Q .normal { a with defers := { target := .collected D, args := #[] } :: a.defers } W)
    (hstop : ∀ (D : Nat) (pre : List α) (W : World), w.heap.size ≤ D → Sp pre → Ix pre W → W.heap[D]? = some (.deferred (some [])) → Code.ret.wpIn F n P Q { a with defers := { target := .collected D, args := #[] } :: a.defers } W) :
    (Code.rangeFunc g ps assign body).wpIn F n P Q a w := by
  refine wpIn_rangeFunc fun fn hfn => ?_
  rw [hro]
  obtain ⟨D, hD⟩ : ∃ D, w.heap.size = D := ⟨_, rfl⟩
  obtain ⟨rec, hrec⟩ : ∃ rec : LoopState → Option Code → Loop, rec = fun st pe => { state := st, pending := pe, fn, tmps := a.tmps, params := ps, assign, body, defers := D } := ⟨_, rfl⟩
  have hpar : ∀ st pe, (rec st pe).params = ps := fun st pe => by rw [hrec]
  have hst : ∀ st pe, (rec st pe).state = st := fun st pe => by rw [hrec]
  generalize hW : (w.alloc (.deferred (some []))).alloc (.loop (rec .ready none)) = W1
  have hrecAt : W1.heap[D + 1]? = some (.loop (rec .ready none)) := by
    have h := World.alloc_heap_new (w.alloc (.deferred (some []))) (.loop (rec .ready none))
    rw [World.size_alloc, hD, hW] at h
    exact h
  have hdefAt : W1.heap[D]? = some (.deferred (some [])) := by
    rw [← hW, ← hD]
    exact (Below.heap_alloc _ _ _ (by simp)).trans (World.alloc_heap_new w _)
  have hsz : W1.heap.size = D + 1 + 1 := by rw [← hW, World.size_alloc, World.size_alloc, hD]
  have hbW : Below w0.heap.size w0 W1 := by
    rw [← hW]
    exact hb0.trans ((((Below.refl _ w).alloc (Nat.le_refl _) _).alloc (by simp) _).mono hb0.size)
  refine ⟨D + 1, [{ target := .collected D, args := #[] }], W1, { target := .fn (.func gf) lb, args := #[.func (.yield (D + 1)) #[] #[]] }, W1, gf, #[.func (.yield (D + 1)) #[] #[]] ++ lb, W1, ?_, ?_, ?_, ?_, fun _ => h1, ?_⟩
  · rw [← hW, hrec, ← hD]; exact run_enterLoop_outer _ _ _ _ _
  · simp only [resolve, hg]; simp [go_sem]
  · intro f' hf'
    simp [Target.leads] at hf'
    subst hf'
    exact hFg
  · simp [invoke, go_sem, eg]
  -- what lies beside the caller's own: the loop's record, the deferred calls' block
  obtain ⟨Bk, hBk⟩ : ∃ Bk : Loop → World → Prop, Bk = fun r W => W.heap[D + 1]? = some (.loop r) ∧ W.heap[D]? = some (.deferred (some [])) := ⟨_, rfl⟩
  have bkKeep : ∀ {r : Loop} {A V : World} {row : Option Nat}, Bk r A → A.grownBy V row → (∀ k, row = some k → W1.heap.size ≤ k ∧ ∃ o : Obj, A.heap[k]? = some o ∧ o.isWalk = true) → Bk r V := fun {r A V row} h hgr hr => by
    rw [hBk] at h ⊢
    exact ⟨(grownBy_keeps hgr (fun k e => (hr k e).2) h.1 rfl).trans h.1, (grownBy_keeps hgr (fun k e => (hr k e).2) h.2 rfl).trans h.2⟩
  have weak : ∀ {A : World} {row : Option Nat}, (∀ k, row = some k → W1.heap.size ≤ k ∧ ∃ o : Obj, A.heap[k]? = some o ∧ o.isWalk = true) → ∀ k, row = some k → w.heap.size ≤ k ∧ ∃ o : Obj, A.heap[k]? = some o ∧ o.isCells = false := fun hr k e => by
    obtain ⟨h, o, ho, hw⟩ := hr k e
    exact ⟨by omega, o, ho, Obj.not_cells_of_walk hw⟩
  have turn : ∀ {W : World} {r : Loop} (r' : Loop), Bk r W → Bk r' (W.putObj (D + 1) (.loop r')) ∧ Below n₀ W (W.putObj (D + 1) (.loop r')) := fun {W r} r' h => by
    rw [hBk] at h ⊢
    exact ⟨⟨World.putObj_heap_same (Array.getElem?_eq_some_iff.1 h.1).1, (World.putObj_heap_other (by omega)).trans h.2⟩, belowK_b hn₀ W _ _ _ (by omega) h.1 rfl rfl⟩
  have putI : ∀ {β : Type} {X : β → World → Prop} {s : β} {W : World} {r : Loop} (r' : Loop), OwnFrom w.heap.size X → X s W → Bk r W → X s (W.putObj (D + 1) (.loop r')) := fun {β X s W r} r' hX hs h => by
    rw [hBk] at h
    exact hX.putObj _ hs (by omega) h.1 rfl
  refine (hseq (D + 1) (fun pre W => I pre W ∧ Bk (rec .ready none) W) (fun pre W => Ix pre W ∧ Bk (rec .done (some .ret)) W) W1 hbW
    (fun s A V row hs hgr hr => ⟨hI s A V row hs.1 hgr (weak hr), bkKeep hs.2 hgr hr⟩) (fun s A V row hs hgr hr => ⟨hIx s A V row hs.1 hgr (weak hr), bkKeep hs.2 hgr hr⟩)
    ?_ ⟨by rw [← hW]; exact hI.alloc _ (hI.alloc _ h0), by rw [hBk]; exact ⟨hrecAt, hdefAt⟩⟩).mono ?_
  · rintro pre x W ⟨hi, hk⟩ hl hlen
    have hk' := hk
    rw [hBk] at hk'
    have hy := run_yield (P := P) (args := encs x) hk'.1 (by rw [hpar]; exact hps x)
    rw [hrec] at hy
    refine ⟨fn, _, assign, body, hy, roundIn_of_wpIn hfn (hassign _ x W _ ⟨_, run_beginRound hk'.1 (hst _ _), ?_⟩)⟩
    obtain ⟨hk2, hb2⟩ := turn { rec .ready none with state := .busy } hk
    refine wpIn_mono (hbody _ pre x _ (putI _ hI hi hk) (putI _ hLx hl hk) hlen) ?_
    have shut : ∀ (j : Option Code) (V : World), KeepsFrom w.heap.size (W.putObj (D + 1) (.loop { rec .ready none with state := .busy })) V → Bk { rec .ready none with state := .busy } V ∧
        (Instr.endRound (D + 1) j).run P V = .ok (.bool j.isNone) (V.putObj (D + 1) (.loop (rec (if j.isNone then .ready else .done) j))) := fun j V hV => by
      have hb : Bk { rec .ready none with state := .busy } V := by
        rw [hBk] at hk2 ⊢
        exact ⟨hV.same _ _ (by omega) hk2.1 rfl, hV.same _ _ (by omega) hk2.2 rfl⟩
      refine ⟨hb, ?_⟩
      rw [hBk] at hb
      have := run_endRound (P := P) j hb.1
      rw [hrec] at this ⊢
      exact this
    rintro e a3 V hp
    cases e with
    | normal =>
      obtain ⟨hkf, hbl, hi3⟩ := hp
      obtain ⟨hb3, hr⟩ := shut none V hkf
      obtain ⟨hk4, hb4⟩ := turn (rec .ready none) hb3
      exact ⟨_, _, hr, .inl ⟨rfl, ⟨putI _ hI hi3 hb3, hk4⟩, (hb2.trans hbl).trans hb4⟩⟩
    | ret =>
      obtain ⟨hkf, hi3⟩ := hp
      obtain ⟨hb3, hr⟩ := shut (some .ret) V hkf
      exact ⟨_, _, hr, .inr ⟨rfl, putI _ hIx hi3 hb3, (turn _ hb3).1⟩⟩
    | exit id => exact hp.elim
    | goto t => exact hp.elim
    | panic ch => exact hp.elim
    | outgrown => exact hp.elim
  · rintro e V ⟨⟨v, rfl⟩, (⟨xs, hS, hi, hk⟩ | ⟨pre, hSp, hi, hk⟩)⟩
    · have hk' := hk
      rw [hBk] at hk'
      refine ⟨none, _, by have := run_endLoop (P := P) hk'.1 (by rw [hst]; simp); rw [hrec] at this; exact this, ?_⟩
      exact hdone D xs _ (by omega) hS (putI _ hI hi hk) ((World.putObj_heap_other (by omega)).trans hk'.2)
    · have hk' := hk
      rw [hBk] at hk'
      refine ⟨some .ret, _, by have := run_endLoop (P := P) hk'.1 (by rw [hst]; simp); rw [hrec] at this; exact this, ?_⟩
      exact hstop D pre _ (by omega) hSp (putI _ hIx hi hk) ((World.putObj_heap_other (by omega)).trans hk'.2)
end Go.Proofs.YthaefajpdncoeaaDoor.Wt
namespace Go.Proofs.YthaefajpdncoeaaDoor.Wt
open Go.ChangeShapes Go.WideShapes Go.ChangeAt Go.RowKit Go.Shelf
open Go.Proofs.YthaefajpdncoeaaDoor.Pl
set_option linter.unusedVariables false
attribute [local go_sem] Oper.semAt_some
/-- A line, its words and the block where they lie. -/
structure Wl where
  s : ByteArray
  bk : Nat
  xs : List ByteArray
  hs : s.size ≤ 20000
  hx : Lib.splitB ⟨#[32]⟩ 0 (Lib.countB s ⟨#[32]⟩) s = xs
def wlL (x : Wl) : List UInt8 := x.s.data.toList
def wlP (x : Wl) : List (List UInt8) := x.xs.map (·.data.toList)
theorem wlP_words (x : Wl) : wlP x = wordsL (wlL x) := by unfold wlP wlL; rw [← x.hx]; exact split_words x.s
theorem wlP_lines (xs : List Wl) : xs.map wlP = (xs.map wlL).map wordsL := by
  rw [List.map_map]
  exact List.map_congr_left fun x _ => wlP_words x
def Lies (x : Wl) (w : World) : Prop := Wds w x.bk x.xs
theorem lies_own (B : Nat) : OwnFrom B Lies := fun x W W' row h hg hr => by
  have hr' : ∀ r, row = some r → ∃ o : Obj, W.heap[r]? = some o ∧ o.isCells = false := fun r e => (hr r e).2
  exact ⟨Nat.lt_of_lt_of_le h.1 hg.size, fun j y hy => cell_kept (h.2 j y hy) hg hr'⟩
def szOf : Value → Nat | .string s => s.size | _ => 0
theorem lines_any (s : ByteArray) (w : World) :
    Calls Tryd.prog 23 #[.string s] w fun e w' => e = .returned (.func (.func 39) #[] #[.pointer (some ⟨w.heap.size, 0, none⟩)]) ∧ w' = w.alloc (.cells #[.string s] 9) := by
  have hmf : ∀ (fn : Fn) (first cap : Array Value) (w : World), (Instr.makeFunc fn first cap).run Tryd.prog w = .ok (.func fn first cap) w := fun _ _ _ _ => rfl
  go_enter Tryd.func23, Tryd.ntmps23
  go_wp2
  go_ret
  exact ⟨rfl, rfl⟩
theorem grown_draws (W : World) (n : Nat) : W.grownBy (W.drewN n) none := ⟨rfl, rfl, rfl, Nat.le_refl _, fun _ _ _ => rfl⟩
theorem empty_list {s : ByteArray} (h : s.data.toList = []) : s = ⟨#[]⟩ := bytes_inj2 h
set_option maxRecDepth 100000 in
set_option maxHeartbeats 2000000 in
theorem lines_in (n l Bs n₀ : Nat) (s : ByteArray) (hs : s.size ≤ 20000) (J Jx : List Wl → World → Prop)
    (hA : ∀ (pre : List Wl) (W : World) (k : Nat) (o : Obj), J pre W → J pre ((W.drewN k).alloc o))
    (hY : ∀ (pre : List Wl) (x : Wl) W, J pre W → Lies x W → pre.length < (linesL s.data.toList).length → YieldAt Fence.wide (n - 1) Tryd.prog l #[.slice (some ⟨x.bk, 0, none⟩) x.xs.length x.xs.length] W fun e W' =>
      (e = .returned (.bool true) ∧ J (pre ++ [x]) W' ∧ Below n₀ W W') ∨ (e = .returned (.bool false) ∧ Jx (pre ++ [x]) W'))
    (W : World) (hB : W.cell? ⟨Bs, 0, none⟩ = some (.string s)) (h0 : J [] W) :
    CallsIn Fence.wide n Tryd.prog 39 #[.func (.yield l) #[] #[], .pointer (some ⟨Bs, 0, none⟩)] W fun e W' => (∃ v, e = .returned v) ∧
      ((∃ ys : List Wl, ys.map wlL = linesL s.data.toList ∧ J ys W') ∨ (∃ pre : List Wl, pre.map wlL <+: linesL s.data.toList ∧ Jx pre W')) := by
  have hnot : ∀ (x : Bool) (w : World), (Op.unary .not (.bool x)).run Tryd.prog w = .ok (.bool (!x)) w := fun _ _ => rfl
  refine callsIn_of_wp Tryd.func39 rfl trivial ?_ rfl
  simp only [Tryd.ntmps39, List.size_toArray, List.length_cons, List.length_nil, Nat.reduceAdd, Nat.reduceSub, Array.replicate_succ, Array.replicate_zero, List.push_toArray, List.append_toArray, List.nil_append, List.cons_append]
  gi_wp2
  gi_loopw [3] (fun p wr => ∃ (pre : List Wl) (rest : ByteArray), p = .string rest ∧ Hid (linesL s.data.toList = pre.map wlL ++ linesL rest.data.toList) ∧ rest.size ≤ 20000 ∧ Hid (J pre wr))
    (fun p _ => szOf p)
  case atStart => exact ⟨[], s, rfl, rfl, hs, h0⟩
  case round =>
    obtain ⟨pre, rest, rfl, hx, hr, hJ⟩ := hrel
    by_cases he : rest.data.toList = []
    · obtain rfl := empty_list he
      have HQ : Hid (pre.map wlL = linesL s.data.toList) := by show _ = _; have h := hx.out; simp [linesL_nil] at h; exact h.symm
      clear hx he
      gi_wp2
      go_end0
      exact ⟨⟨_, rfl⟩, .inl ⟨pre, HQ.out, hJ.out⟩⟩
    · have hl := linesL_cons he
      have h1 := bef_le 10 rest.data.toList
      have h2 := aft_lt 10 rest.data.toList he
      have hsz : rest.data.toList.length = rest.size := by simp
      obtain ⟨x, hx1⟩ : ∃ x, textS (bef 10 rest.data.toList) = x := ⟨_, rfl⟩
      obtain ⟨y, hy1⟩ : ∃ x, textS (aft 10 rest.data.toList) = x := ⟨_, rfl⟩
      have hxs : x.size ≤ 20000 := by rw [← hx1]; show (bef 10 rest.data.toList).length ≤ _; omega
      have hys : y.size < rest.size := by rw [← hy1]; show (aft 10 rest.data.toList).length < _; omega
      have hys2 : y.size ≤ 20000 := by omega
      obtain ⟨ws, hws⟩ : ∃ ws, Lib.splitB ⟨#[32]⟩ 0 (Lib.countB x ⟨#[32]⟩) x = ws := ⟨_, rfl⟩
      have HWS : Hid (Lib.splitB ⟨#[32]⟩ 0 (Lib.countB x ⟨#[32]⟩) x = ws) := hws
      have HX : Hid (textS (bef 10 rest.data.toList) = x) := hx1
      have HY : Hid (textS (aft 10 rest.data.toList) = y) := hy1
      have HZ : Hid (rest.size ≤ 1000000) := by show _ ≤ _; omega
      have HZx : Hid (x.size ≤ 1000000) := by show _ ≤ _; omega
      have HN : Hid (∀ b, linesL s.data.toList = (pre ++ [(⟨x, b, ws, hxs, hws⟩ : Wl)]).map wlL ++ linesL y.data.toList) := by
        have e1 : x.data.toList = bef 10 rest.data.toList := by rw [← hx1]; rfl
        have e2 : y.data.toList = aft 10 rest.data.toList := by rw [← hy1]; rfl
        intro b
        rw [hx.out, hl, e2]; simp [wlL, e1]
      have HP : Hid (pre.length < (linesL s.data.toList).length) := by show _ < _; rw [HN.out 0]; simp
      have ht : rest.toList.isEmpty = false := by
        rw [ByteArray.toList_eq]
        cases h : rest.data.toList with
        | nil => exact absurd h he
        | cons a b => rfl
      clear he hl h1 h2 hsz hx1 hy1 hx
      gi_wp2_with (first
        | (refine ⟨trivial, fun h => (by cases h), ?_⟩; gi_at_call 40; (refine (callsIn_wide.2 (cut_any rest 10 _ HZ.out x y _ HX.out HY.out rfl)).mono ?_); rintro e w1 ⟨rfl, nn, rfl⟩)
        | (refine ⟨trivial, fun h => (by cases h), ?_⟩; gi_at_call 41; (refine (callsIn_wide.2 (split_any x _ HZx.out ws HWS.out)).mono ?_); rintro e w2 ⟨rfl, rfl⟩; obtain ⟨fn, tmps, assign, body, hy, hR⟩ := hY pre ⟨x, wr.heap.size, ws, hxs, hws⟩ ((wr.drewN nn).alloc (.cells (ws.map Value.string).toArray 9)) (hA _ _ _ _ hJ.out) (Wds.made (wr.drewN nn) ws 9) HP.out))
      refine ⟨fun h => (by cases h), hR.mono ?_⟩
      rintro e W3 (⟨rfl, hJ3, hk3⟩ | ⟨rfl, hJx3⟩)
      · gi_wp2
        go_roundw
        case rel => exact ⟨pre ++ [(⟨x, wr.heap.size, ws, hxs, hws⟩ : Wl)], y, rfl, HN.out _, hys2, (show Hid (J (pre ++ [(⟨x, wr.heap.size, ws, hxs, hws⟩ : Wl)]) W3) from hJ3)⟩
        case measure => exact hys
      · gi_wp2
        refine bodyPost_ret (results_none rfl _ _ _) rfl ?_
        exact ⟨⟨_, rfl⟩, .inr ⟨pre ++ [⟨x, wr.heap.size, ws, hxs, hws⟩], ⟨_, (HN.out _).symm⟩, hJx3⟩⟩
/-- The iterator's contract. -/
theorem lines_laid (n Bs n₀ : Nat) (s : ByteArray) (hs : s.size ≤ 20000) (w : World) (hBs : Bs < w.heap.size) (hc : w.cell? ⟨Bs, 0, none⟩ = some (.string s)) :
    SeqLaid Fence.wide n Tryd.prog 39 #[.pointer (some ⟨Bs, 0, none⟩)] (fun x : Wl => #[.slice (some ⟨x.bk, 0, none⟩) x.xs.length x.xs.length]) Lies n₀ (fun ys => ys.map wlL = linesL s.data.toList) (fun pre => pre.map wlL <+: linesL s.data.toList) (linesL s.data.toList).length w :=
  fun l J Jx W hW hJ hJx hY h0 => lines_in n l Bs n₀ s hs J Jx (fun pre W k o h => hJ pre _ _ none (hJ pre W _ none h (grown_draws W k) (fun r e => by cases e)) (World.grownBy_alloc _ o none) (fun r e => by cases e)) hY W ((hW.cell (p := ⟨Bs, 0, none⟩) hBs).trans hc) h0
end Go.Proofs.YthaefajpdncoeaaDoor.Wt
namespace Go.Proofs.YthaefajpdncoeaaDoor.Wt
open Go.ChangeShapes Go.WideShapes Go.ChangeAt Go.RowKit
open Go.Proofs.YthaefajpdncoeaaDoor.Pl
set_option linter.unusedVariables false
set_option linter.unusedSimpArgs false
/-- Blocks that hold no states and no arcs are as they were, but for block M. -/
def Kept (M : Option Nat) (w w' : World) : Prop := w.heap.size ≤ w'.heap.size ∧ ∀ (k : Nat) (o : Obj), w.heap[k]? = some o → some k ≠ M → (∀ (cs : Array Value) (T : TypeId) (fr : Nat × Nat), o = .cells cs T fr → T ≠ 37 ∧ T ≠ 46) → w'.heap[k]? = some o
theorem Kept.refl (M : Option Nat) (w : World) : Kept M w w := ⟨Nat.le_refl _, fun _ _ h _ _ => h⟩
theorem Kept.trans {M : Option Nat} {w w' w2 : World} (h : Kept M w w') (h2 : Kept M w' w2) : Kept M w w2 := ⟨Nat.le_trans h.1 h2.1, fun k o e a b => h2.2 k o (h.2 k o e a b) a b⟩
theorem Kept.any {w w' : World} (h : Kept none w w') (M : Option Nat) : Kept M w w' := ⟨h.1, fun k o e _ b => h.2 k o e (by simp) b⟩
theorem Kept.of {w w' : World} (h : Below w.heap.size w w') : Kept none w w' := ⟨h.size, fun k o e _ _ => (h.block k (lt_of_block e)).trans e⟩
theorem Kept.setM (w : World) (M o : Nat) (v : Value) : Kept (some M) w (w.setCell ⟨M, o, none⟩ v) := ⟨by simp [World.setCell], fun k ob e a _ => (Below.heap_setCell w ⟨M, o, none⟩ v k (fun h => a (by rw [h]))).trans e⟩
theorem Kept.setT {w : World} {g o : Nat} {v : Value} {cs : Array Value} {fr : Nat × Nat} (hg : w.heap[g]? = some (.cells cs 37 fr)) : Kept none w (w.setCell ⟨g, o, none⟩ v) := ⟨by simp [World.setCell], fun k ob e _ b => by
  by_cases hk : k = g
  · subst hk
    rw [hg] at e
    exact absurd rfl (b _ _ _ (Option.some.inj e).symm).1
  · exact (Below.heap_setCell w ⟨g, o, none⟩ v k hk).trans e⟩
theorem Kept.grown {w w' : World} {B s n : Nat} {T : TypeId} {v : Value} {xs : List Value} (ho : w.ownsRow B T s v n xs) (hT : T = 37 ∨ T = 46) (hg : w.grownBy w' v.ownBlock) : Kept none w w' := ⟨hg.size, fun k ob e _ b => by
  refine (hg.block k (lt_of_block e) (fun h => ?_)).trans e
  rcases ho.2 with ⟨hv, _⟩ | ⟨g, cap, cur, hv, _, hgb, _⟩
  · rw [hv] at h; simp [Value.ownBlock] at h
  · rw [hv] at h
    simp only [Value.ownBlock, Option.some.injEq] at h
    subst h
    rw [hgb] at e
    have := b _ _ _ (Option.some.inj e).symm
    rcases hT with h | h
    · exact this.1 h
    · exact this.2 h⟩
theorem Kept.blk {M : Option Nat} {w w' : World} {b : Nat} {cs : Array Value} {t : TypeId} (h : Kept M w w') (hb : Blk w b cs t) (hM : some b ≠ M) (h1 : t ≠ 37) (h2 : t ≠ 46) : Blk w' b cs t :=
  h.2 b _ hb hM (fun cs' T fr e => by injection e with _ e2 _; subst e2; exact ⟨h1, h2⟩)
theorem push_kept {w1 : World} {base : Nat} {vo : Value} {l : List St} (hown : OwnApt w1 base vo l) (f : Int) (hl : (l.length + 1) * 32 ≤ 140737488355328) (hbase : base ≤ w1.heap.size) :
    ∃ a3 c3 w3, (Builtin.append_ #[22, 22] 22 #[vo, .slice (some ⟨w1.heap.size, 0, none⟩) 1 1]).run Tryd.prog (w1.alloc (.cells #[.int .i64 f, .slice none 0 0] 37)) = .ok (.slice a3 (l.length + 1) c3) w3 ∧ OwnApt w3 base (.slice a3 (l.length + 1) c3) (l ++ [(f, [])]) ∧ Below base w1 w3 ∧ Kept none w1 w3 := by
  obtain ⟨a3, c3, w3, hr, h1, h2⟩ := hown.push f hl hbase
  refine ⟨a3, c3, w3, hr, h1, h2, ?_⟩
  obtain ⟨i1, hi1, hy0, hy1, hy2⟩ := info_parts infoState
  obtain ⟨vs, q1, q2, _⟩ := hown
  have hB : Below w1.heap.size w1 (w1.alloc (.cells #[.int .i64 f, .slice none 0 0] 37)) := (Below.refl _ _).alloc (Nat.le_refl _) _
  obtain ⟨v4, w4, hr4, _, hg4, _⟩ := run_append_own (P := Tryd.prog) (w1.alloc (.cells #[.int .i64 f, .slice none 0 0] 37)) base 22 22 37 i1 _ 2 32 Tryd.underlying22 hi1 hy0 hy1 hy2 rfl (by omega) vo vs.length (vs.flatMap encS) (ownBelow q1 hB) ⟨w1.heap.size, 0, none⟩ 1 1 [.int .i64 f, .slice none 0 0] rfl (World.news_of_block (cs := #[.int .i64 f, .slice none 0 0]) (Blk.made w1 _ _)) (by
    intro u hu
    simp at hu
    rcases hu with rfl | rfl <;> rfl) (by rw [q2]; unfold maxLen; omega) (by rw [q2]; exact hl) (by simp; omega)
  have e := hr.symm.trans hr4
  injection e with _ e2
  rw [e2]
  exact (Kept.of hB).trans (Kept.grown (ownBelow q1 hB) (.inl rfl) hg4)
theorem arc_kept {w : World} {base : Nat} {v : Value} {t : List St} {s : St} (h : OwnApt w base v (t ++ [s])) (hbase : base ≤ w.heap.size) (c : Ar) (hl : (s.2.length + 1) * 32 ≤ 140737488355328) :
    ∃ g cap a4 c4, v = .slice (some ⟨g, 0, none⟩) (t.length + 1) cap ∧ base ≤ g ∧ g < w.heap.size ∧ w.cell? ⟨g, t.length * 2 + 1, none⟩ = some (.slice a4 s.2.length c4) ∧
      ∃ a5 c5 w4, (Builtin.append_ #[35, 35] 35 #[.slice a4 s.2.length c4, .slice (some ⟨w.heap.size, 0, none⟩) 1 1]).run Tryd.prog (w.alloc (.cells #[.int .i64 c.1, .int .i64 c.2.1, .int .i64 c.2.2.1, .int .i64 c.2.2.2] 46)) = .ok (.slice a5 (s.2.length + 1) c5) w4 ∧
        w4.cell? ⟨g, t.length * 2 + 1, none⟩ = some (.slice a4 s.2.length c4) ∧ w4.frozen? ⟨g, t.length * 2 + 1, none⟩ = false ∧ Below base w w4 ∧
        OwnApt (w4.setCell ⟨g, t.length * 2 + 1, none⟩ (.slice a5 (s.2.length + 1) c5)) base v (t ++ [(s.1, s.2 ++ [c])]) ∧ Kept none w w4 ∧ Kept none w4 (w4.setCell ⟨g, t.length * 2 + 1, none⟩ (.slice a5 (s.2.length + 1) c5)) := by
  obtain ⟨g, cap, a4, c4, hv, hbg, hgl, hc, a5, c5, w4, hr, hc4, hf4, hb4, ho4⟩ := h.arc hbase c hl
  refine ⟨g, cap, a4, c4, hv, hbg, hgl, hc, a5, c5, w4, hr, hc4, hf4, hb4, ho4, ?_⟩
  obtain ⟨i1, hi1, hy0, hy1, hy2⟩ := info_parts infoArc
  obtain ⟨vs, q1, q2, q3, _⟩ := h
  have hlen : vs.length = t.length + 1 := by rw [q2]; simp
  have hqs : el (t ++ [s]) t.length = s := el_last t s
  have h3 := (q3 t.length (by simp)).2
  rw [hqs] at h3
  have hvb : v.ownBlock = some g := by rw [hv]; rfl
  have hcell : w.cell? ⟨g, t.length * 2 + 1, none⟩ = some (el vs t.length).2 := by
    have h9 := q1.cells hvb (t.length * 2 + 1) (el vs t.length).2 (by rw [flat_at encS_len vs t.length (by omega) 1 (by omega)]; rfl)
    rw [Addr.add_lit, Nat.zero_add] at h9
    exact h9
  have he : (el vs t.length).2 = .slice a4 s.2.length c4 := Option.some.inj (hcell.symm.trans hc)
  rw [he] at h3
  have hB : Below w.heap.size w (w.alloc (.cells #[.int .i64 c.1, .int .i64 c.2.1, .int .i64 c.2.2.1, .int .i64 c.2.2.2] 46)) := (Below.refl _ _).alloc (Nat.le_refl _) _
  have hrow : Row 4 encA (w.alloc (.cells #[.int .i64 c.1, .int .i64 c.2.1, .int .i64 c.2.2.1, .int .i64 c.2.2.2] 46)) (.slice (some ⟨w.heap.size, 0, none⟩) 1 1) [c] := oneRow (enc := encA) w c rfl 46
  obtain ⟨v5, w5, r5, _, hg5, _⟩ := run_append_spot (P := Tryd.prog) encA_len (by decide) encA_one 35 35 base 46 i1 _ 32 Tryd.underlying35 hi1 hy0 hy1 hy2 rfl _ s.2.length (s.2.flatMap encA) (ownBelow h3 hB) _ [c] hrow (by simp; unfold maxLen; omega) (by simpa using hl) (by simp; omega)
  have e := hr.symm.trans r5
  injection e with _ e2
  have k1 : Kept none w w4 := by rw [e2]; exact (Kept.of hB).trans (Kept.grown (ownBelow h3 hB) (.inr rfl) hg5)
  refine ⟨k1, ?_⟩
  have hne : (Value.slice a4 s.2.length c4).ownBlock ≠ some g := by
    rcases own_apart h3 q1 (by decide) with e | e
    · rw [e]; simp
    · rw [← hvb]; exact e
  rcases q1.2 with ⟨_, h0⟩ | ⟨g', cap', cur, hv', _, hg', _⟩
  · omega
  · rw [hv] at hv'
    injection hv' with e1 _ _
    simp only [Option.some.injEq, Addr.mk.injEq, and_true, true_and] at e1
    subst e1
    have hgb : w4.heap[g]? = w.heap[g]? := by
      rw [e2, hg5.block g (by simp; omega) (Ne.symm hne)]
      exact hB.block g hgl
    exact Kept.setT (hgb.trans hg')
/-- The machine that is being read: a block of its own, its rows apart and behind. -/
def MacAt (base M : Nat) (z : Int) (l : List St) (W : World) : Prop := ∃ v, Blk W M #[.int .i64 z, v] 24 ∧ OwnApt W base v l
theorem MacAt.later {base M : Nat} {z : Int} {l : List St} {W W' : World} (h : MacAt base M z l W) (hb : Below W.heap.size W W') : MacAt base M z l W' := by
  obtain ⟨v, h1, h2⟩ := h
  exact ⟨v, h1.below hb h1.lt, h2.later hb⟩
theorem ne_toList {s : ByteArray} {l : List UInt8} (h : ¬ s.data.toList = l) : (s.toList == l) = false := by
  rw [ByteArray.toList_eq]; simpa using h
theorem eq_toList {s : ByteArray} {l : List UInt8} (h : s.data.toList = l) : (s.toList == l) = true := by
  rw [ByteArray.toList_eq]; simpa using h
theorem addStart_any (base M : Nat) (z : Int) (l : List St) (s : ByteArray) (W : World) (h : MacAt base M z l W) (hM : M < base) (hs : s.size ≤ 20000) (he : Errs W) :
    Calls Tryd.prog 42 #[.pointer (some ⟨M, 0, none⟩), .string s] W fun e W' => Below M W W' ∧ Kept (some M) W W' ∧ ((e = .returned (.bool true) ∧ ∃ z', startQ s.data.toList = some z' ∧ MacAt base M z' l W') ∨ (e = .returned (.bool false) ∧ startQ s.data.toList = none)) := by
  obtain ⟨v, hb, ho⟩ := h
  have HO : Hid (OwnApt W base v l) := ho
  have HB : Hid (Blk W M #[.int .i64 z, v] 24) := hb
  obtain ⟨a, cap, rfl⟩ := ho.sl
  have hlt := hb.lt
  clear ho hb
  by_cases c : s.data.toList = [45]
  · have hc := eq_toList c
    have HQ : Hid (startQ s.data.toList = some (-1)) := by show _ = _; unfold startQ; rw [if_pos c]
    have m0 := HB.out.cell 0 (v := .int .i64 z) rfl
    have f0 := HB.out.fz 0
    clear c
    go_enter Tryd.func42, Tryd.ntmps42
    go_wp2
    go_ret
    exact ⟨(Below.refl M W).setCell (p := ⟨M, 0, none⟩) (Nat.le_refl _) _, Kept.setM W M 0 _, .inl ⟨rfl, -1, HQ.out, _, HB.out.set 0 _, HO.out.setCell (a := ⟨M, 0, none⟩) hM _⟩⟩
  · have hc := ne_toList c
    have HQ : Hid (startQ s.data.toList = atO s.data.toList) := by show _ = _; unfold startQ; rw [if_neg c]
    have HZ : Hid (s.size ≤ 1000000) := by show _ ≤ _; omega
    have HE : Hid (Errs W) := he
    clear c he
    cases hq : atO s.data.toList with
    | some z' =>
      have HA : Hid (atO s.data.toList = some z') := hq
      clear hq
      go_enter Tryd.func42, Tryd.ntmps42
      go_wp2_with (first
        | (go_at_call 57; (with_reducible refine (atoi_ok s _ HZ.out z' HA.out).mono ?_); rintro e w1 ⟨rfl, hb1⟩; have HB1 : Hid (Blk w1 M #[.int .i64 z, .slice a l.length cap] 24) := HB.out.below hb1 hlt; have HO1 : Hid (OwnApt w1 base (.slice a l.length cap) l) := HO.out.later hb1; have HW1 : Hid (Below W.heap.size W w1) := hb1; have m0 := HB1.out.cell 0 (v := .int .i64 z) rfl; have f0 := HB1.out.fz 0; clear hb1))
      go_ret
      exact ⟨(HW1.out.mono (Nat.le_of_lt hlt)).setCell (p := ⟨M, 0, none⟩) (Nat.le_refl _) _, ((Kept.of HW1.out).any _).trans (Kept.setM w1 M 0 _), .inl ⟨rfl, z', by rw [HQ.out]; exact HA.out, _, HB1.out.set 0 _, HO1.out.setCell (a := ⟨M, 0, none⟩) hM _⟩⟩
    | none =>
      have HA : Hid (atO s.data.toList = none) := hq
      clear hq
      go_enter Tryd.func42, Tryd.ntmps42
      go_wp2_with (first
        | (go_at_call 57; (with_reducible refine (atoi_no s _ HZ.out HE.out HA.out).mono ?_); rintro e w1 ⟨v1, t1, x1, rfl, hb1⟩; have HB1 : Hid (Blk w1 M #[.int .i64 z, .slice a l.length cap] 24) := HB.out.below hb1 hlt; have HW1 : Hid (Below W.heap.size W w1) := hb1; have m0 := HB1.out.cell 0 (v := .int .i64 z) rfl; have f0 := HB1.out.fz 0; clear hb1))
      go_ret
      exact ⟨(HW1.out.mono (Nat.le_of_lt hlt)).setCell (p := ⟨M, 0, none⟩) (Nat.le_refl _) _, ((Kept.of HW1.out).any _).trans (Kept.setM w1 M 0 _), .inr ⟨rfl, by rw [HQ.out]; exact HA.out⟩⟩
set_option maxHeartbeats 1000000 in
theorem addState_any (base M : Nat) (z : Int) (l : List St) (s : ByteArray) (W : World) (h : MacAt base M z l W) (hM : M < base) (hbW : base ≤ W.heap.size) (hs : s.size ≤ 20000) (hl : l.length ≤ 100000) :
    Calls Tryd.prog 43 #[.pointer (some ⟨M, 0, none⟩), .string s] W fun e W' => Below M W W' ∧ Kept (some M) W W' ∧ ((e = .returned (.bool true) ∧ ∃ f, finQ s.data.toList = some f ∧ MacAt base M z (l ++ [(f, [])]) W') ∨ (e = .returned (.bool false) ∧ finQ s.data.toList = none)) := by
  obtain ⟨v, hb, ho⟩ := h
  obtain ⟨f, ec, hr⟩ : ∃ f ec, readR s = (f, ec) := ⟨_, _, rfl⟩
  have HR : Hid (Calls Tryd.prog 58 #[.string s] W fun e w' => e = .returned (.tuple #[.int .i64 f, .int .i64 ec]) ∧ W = w') := by
    have := read_any s W (by unfold maxLen; omega)
    rw [hr] at this
    exact this
  have hfq : finQ s.data.toList = if ec = 0 then some f else none := by
    unfold finQ
    rw [show textS s.data.toList = s from by apply bytes_inj2; rfl, hr]
  obtain ⟨a3, c3, w3, hr3, ho3, hb3, hk3⟩ := push_kept ho f (by omega) hbW
  have R3 : Hid ((Builtin.append_ #[22, 22] 22 #[v, .slice (some ⟨W.heap.size, 0, none⟩) 1 1]).run Tryd.prog (W.alloc (.cells #[.int .i64 f, .slice none 0 0] 37)) = .ok (.slice a3 (l.length + 1) c3) w3) := hr3
  have HO3 : Hid (OwnApt w3 base (.slice a3 (l.length + 1) c3) (l ++ [(f, [])])) := ho3
  have HW3 : Hid (Below M W w3) := hb3.mono (Nat.le_of_lt hM)
  have HK3 : Hid (Kept none W w3) := hk3
  have HB3 : Hid (Blk w3 M #[.int .i64 z, v] 24) := hk3.blk hb (by simp) (by decide) (by decide)
  have m1 := hb.cell 1 (v := v) rfl
  have n1 := HB3.out.cell 1 (v := v) rfl
  have f1 := HB3.out.fz 1
  obtain ⟨a, cap, rfl⟩ := ho.sl
  clear ho hb hr hr3 ho3 hb3 hk3
  go_enter Tryd.func43, Tryd.ntmps43
  go_wp2_with (first
    | (go_at_call 58; (with_reducible refine HR.out.mono ?_); rintro e w1 ⟨rfl, rfl⟩)
    | (at_builtin; refine wpListAppendRun rfl (.tmp 16) (.tmp 19) 22 rfl rfl rfl R3.out ?_))
  by_cases he : ec = 0
  · have he' : (ec == 0) = true := by simpa using he
    go_wp2
    go_ret
    exact ⟨HW3.out.setCell (p := ⟨M, 1, none⟩) (Nat.le_refl _) _, (HK3.out.any _).trans (Kept.setM w3 M 1 _), .inl ⟨by rw [he']; rfl, f, by rw [hfq, if_pos he], _, HB3.out.set 1 _, HO3.out.setCell (a := ⟨M, 1, none⟩) hM _⟩⟩
  · have he' : (ec == 0) = false := by simpa using he
    go_wp2
    go_ret
    exact ⟨HW3.out.setCell (p := ⟨M, 1, none⟩) (Nat.le_refl _) _, (HK3.out.any _).trans (Kept.setM w3 M 1 _), .inr ⟨by rw [he']; rfl, by rw [hfq, if_neg he]⟩⟩
end Go.Proofs.YthaefajpdncoeaaDoor.Wt
namespace Go.Proofs.YthaefajpdncoeaaDoor.Wt
open Go.ChangeShapes Go.WideShapes Go.ChangeAt Go.RowKit
open Go.Proofs.YthaefajpdncoeaaDoor.Pl
set_option linter.unusedVariables false
set_option linter.unusedSimpArgs false
def HeldM (M : Nat) (vs : Value) (w : World) : Prop := w.cell? ⟨M, 1, none⟩ = some vs ∧ True
def HeldZ (g q nb : Nat) (va : Value) (y0 y1 y2 y3 : Int) (w : World) : Prop := w.cell? ⟨g, q * 2 + 1, none⟩ = some va ∧ w.cell? ⟨nb, 0, none⟩ = some (.int .i64 y0) ∧ w.cell? ⟨nb, 1, none⟩ = some (.int .i64 y1) ∧ w.cell? ⟨nb, 2, none⟩ = some (.int .i64 y2) ∧ w.cell? ⟨nb, 3, none⟩ = some (.int .i64 y3)
set_option maxRecDepth 100000 in
set_option maxHeartbeats 3200000 in
theorem addArc_any (base M bk : Nat) (z : Int) (t : List St) (sl : St) (p : List (List UInt8)) (x1 x2 x3 x4 : ByteArray) (W : World) (h : MacAt base M z (t ++ [sl]) W) (hM : M < base) (hbW : base ≤ W.heap.size)
    (h1 : W.cell? ⟨bk, 1, none⟩ = some (.string x1)) (h2 : W.cell? ⟨bk, 2, none⟩ = some (.string x2)) (h3 : W.cell? ⟨bk, 3, none⟩ = some (.string x3)) (h4 : W.cell? ⟨bk, 4, none⟩ = some (.string x4)) (hbk : bk < W.heap.size)
    (p1 : x1.data.toList = wd p 1) (p2 : x2.data.toList = wd p 2) (p3 : x3.data.toList = wd p 3) (p4 : x4.data.toList = wd p 4) (z1 : x1.size ≤ 20000) (z2 : x2.size ≤ 20000) (z3 : x3.size ≤ 20000) (z4 : x4.size ≤ 20000)
    (he : Errs W) (hl : t.length ≤ 100000) (hl2 : sl.2.length ≤ 100000) :
    Calls Tryd.prog 44 #[.pointer (some ⟨M, 0, none⟩), .slice (some ⟨bk, 1, none⟩) 4 4] W fun e W' => Below M W W' ∧ Kept (some M) W W' ∧ ((e = .returned (.bool true) ∧ ∃ a, arcQ p = some a ∧ MacAt base M z (t ++ [(sl.1, sl.2 ++ [a])]) W') ∨ (e = .returned (.bool false) ∧ arcQ p = none)) := by
  obtain ⟨v, hb, ho⟩ := h
  have HO : Hid (OwnApt W base v (t ++ [sl])) := ho
  have HB : Hid (Blk W M #[.int .i64 z, v] 24) := hb
  have m1 := hb.cell 1 (v := v) rfl
  have hlt := hb.lt
  have hlt2 : M + 1 ≤ W.heap.size := hlt
  obtain ⟨a, cap, hv⟩ := ho.sl
  rw [show (t ++ [sl]).length = t.length + 1 from by simp] at hv
  subst hv
  have HE : Hid (∀ w, Below W.heap.size W w → Errs w) := fun w hw => he.later hw
  have HK : Hid (∀ w, Below W.heap.size W w → (Below M W w ∧ Kept (some M) W w)) := fun w hw => ⟨hw.mono (Nat.le_of_lt hlt), (Kept.of hw).any _⟩
  have n0 : (((t.length : Int) + 1) == 0) = false := beq_eq_false_iff_ne.2 (by omega)
  have HP1 : Hid (x1.data.toList = wd p 1) := p1
  have HP2 : Hid (x2.data.toList = wd p 2) := p2
  have HP3 : Hid (x3.data.toList = wd p 3) := p3
  have HP4 : Hid (x4.data.toList = wd p 4) := p4
  have HC1 : Hid (W.cell? ⟨bk, 1, none⟩ = some (.string x1)) := h1
  have HC2 : Hid (W.cell? ⟨bk, 2, none⟩ = some (.string x2)) := h2
  have HC3 : Hid (W.cell? ⟨bk, 3, none⟩ = some (.string x3)) := h3
  have HC4 : Hid (W.cell? ⟨bk, 4, none⟩ = some (.string x4)) := h4
  clear hb ho he p1 p2 p3 p4 h1 h2 h3 h4
  go_enter Tryd.func44, Tryd.ntmps44
  go_wp2
  go_loopw [16] (fun i wr => ∃ (k : Nat) (y0 y1 y2 y3 : Int), k ≤ 4 ∧ i = .int .i64 k ∧ Hid (Blk wr W.heap.size #[.int .i64 y0, .int .i64 y1, .int .i64 y2, .int .i64 y3] 89) ∧ Hid (Below W.heap.size W wr) ∧ Hid ((1 ≤ k → atO (wd p 1) = some y0) ∧ (2 ≤ k → atO (wd p 2) = some y1) ∧ (3 ≤ k → atO (wd p 3) = some y2) ∧ (4 ≤ k → atO (wd p 4) = some y3))) (fun i _ => 4 - (intOf i).toNat)
  case atStart => exact ⟨0, 0, 0, 0, 0, by omega, rfl, Blk.made W _ _, (Below.refl _ _).alloc (Nat.le_refl _) _, by omega, by omega, by omega, by omega⟩
  case round =>
    clear m1
    obtain ⟨k, y0, y1, y2, y3, hk, rfl, hbx, hb, hq⟩ := hrel
    rcases (show k = 0 ∨ k = 1 ∨ k = 2 ∨ k = 3 ∨ k = 4 by omega) with rfl | rfl | rfl | rfl | rfl
    · have c1 := (hb.out.cell (p := ⟨bk, 1, none⟩) hbk).trans HC1.out
      have d0 := hbx.out.cell 0 (v := .int .i64 y0) rfl
      have e0 := hbx.out.fz 0
      obtain ⟨r, hat⟩ : ∃ r, atO (wd p 1) = r := ⟨_, rfl⟩
      cases r with
      | some v =>
        have HA : Hid (∀ w : World, Calls Tryd.prog 57 #[.string x1] w fun e w' => e = .returned (.tuple #[.int .i64 v, .nilIface]) ∧ Below w.heap.size w w') := fun w => atoi_ok x1 w (by omega) v (by rw [HP1.out]; exact hat)
        have HAT : Hid (atO (wd p 1) = some v) := hat
        clear hat
        go_wp2_with (first
          | (go_at_call 57; (with_reducible refine (HA.out _).mono ?_); rintro e w1 ⟨rfl, hb1⟩; have HX1 : Hid (Blk w1 W.heap.size #[.int .i64 y0, .int .i64 y1, .int .i64 y2, .int .i64 y3] 89) := hbx.out.below hb1 hbx.out.lt; have HB1 : Hid (Below W.heap.size W w1) := hb.out.trans (hb1.mono hb.out.size); have d1' := HX1.out.cell 0 (v := .int .i64 y0) rfl; have e1' := HX1.out.fz 0; clear hb1))
        go_roundw
        case rel => exact ⟨1, v, y1, y2, y3, by omega, rfl, HX1.out.set 0 _, HB1.out.setCell (p := ⟨W.heap.size, 0, none⟩) (Nat.le_refl _) _, fun _ => HAT.out, by omega, by omega, by omega⟩
        case measure => simp [intOf]
      | none =>
        have HA : Hid (Calls Tryd.prog 57 #[.string x1] wr fun e w' => ∃ v t x, e = .returned (.tuple #[.int .i64 v, .iface t x]) ∧ Below wr.heap.size wr w') := atoi_no x1 wr (by omega) (HE.out _ hb.out) (by rw [HP1.out]; exact hat)
        have HQ : Hid (arcQ p = none) := by show _ = _; unfold arcQ; rw [hat]; rfl
        clear hat
        go_wp2_with (first
          | (go_at_call 57; (with_reducible refine (HA.out).mono ?_); rintro e w1 ⟨vv, tt, xx, rfl, hb1⟩; have HB1 : Hid (Below W.heap.size W w1) := hb.out.trans (hb1.mono hb.out.size); clear hb1))
        refine bodyPost_ret (v := .bool false) (by simp [results, Tryd.results44, go_sem]) rfl ?_
        exact ⟨(HK.out _ HB1.out).1, (HK.out _ HB1.out).2, .inr ⟨rfl, HQ.out⟩⟩
    · have c1 := (hb.out.cell (p := ⟨bk, 2, none⟩) hbk).trans HC2.out
      have d1 := hbx.out.cell 1 (v := .int .i64 y1) rfl
      have e1 := hbx.out.fz 1
      obtain ⟨r, hat⟩ : ∃ r, atO (wd p 2) = r := ⟨_, rfl⟩
      cases r with
      | some v =>
        have HA : Hid (∀ w : World, Calls Tryd.prog 57 #[.string x2] w fun e w' => e = .returned (.tuple #[.int .i64 v, .nilIface]) ∧ Below w.heap.size w w') := fun w => atoi_ok x2 w (by omega) v (by rw [HP2.out]; exact hat)
        have HAT : Hid (atO (wd p 2) = some v) := hat
        clear hat
        go_wp2_with (first
          | (go_at_call 57; (with_reducible refine (HA.out _).mono ?_); rintro e w1 ⟨rfl, hb1⟩; have HX1 : Hid (Blk w1 W.heap.size #[.int .i64 y0, .int .i64 y1, .int .i64 y2, .int .i64 y3] 89) := hbx.out.below hb1 hbx.out.lt; have HB1 : Hid (Below W.heap.size W w1) := hb.out.trans (hb1.mono hb.out.size); have d1' := HX1.out.cell 1 (v := .int .i64 y1) rfl; have e1' := HX1.out.fz 1; clear hb1))
        go_roundw
        case rel => exact ⟨2, y0, v, y2, y3, by omega, rfl, HX1.out.set 1 _, HB1.out.setCell (p := ⟨W.heap.size, 1, none⟩) (Nat.le_refl _) _, fun _ => hq.out.1 (by omega), fun _ => HAT.out, by omega, by omega⟩
        case measure => simp [intOf]
      | none =>
        have HA : Hid (Calls Tryd.prog 57 #[.string x2] wr fun e w' => ∃ v t x, e = .returned (.tuple #[.int .i64 v, .iface t x]) ∧ Below wr.heap.size wr w') := atoi_no x2 wr (by omega) (HE.out _ hb.out) (by rw [HP2.out]; exact hat)
        have HQ : Hid (arcQ p = none) := by show _ = _; unfold arcQ; rw [hq.out.1 (by omega), hat]; rfl
        clear hat
        go_wp2_with (first
          | (go_at_call 57; (with_reducible refine (HA.out).mono ?_); rintro e w1 ⟨vv, tt, xx, rfl, hb1⟩; have HB1 : Hid (Below W.heap.size W w1) := hb.out.trans (hb1.mono hb.out.size); clear hb1))
        refine bodyPost_ret (v := .bool false) (by simp [results, Tryd.results44, go_sem]) rfl ?_
        exact ⟨(HK.out _ HB1.out).1, (HK.out _ HB1.out).2, .inr ⟨rfl, HQ.out⟩⟩
    · have c1 := (hb.out.cell (p := ⟨bk, 3, none⟩) hbk).trans HC3.out
      have d2 := hbx.out.cell 2 (v := .int .i64 y2) rfl
      have e2 := hbx.out.fz 2
      obtain ⟨r, hat⟩ : ∃ r, atO (wd p 3) = r := ⟨_, rfl⟩
      cases r with
      | some v =>
        have HA : Hid (∀ w : World, Calls Tryd.prog 57 #[.string x3] w fun e w' => e = .returned (.tuple #[.int .i64 v, .nilIface]) ∧ Below w.heap.size w w') := fun w => atoi_ok x3 w (by omega) v (by rw [HP3.out]; exact hat)
        have HAT : Hid (atO (wd p 3) = some v) := hat
        clear hat
        go_wp2_with (first
          | (go_at_call 57; (with_reducible refine (HA.out _).mono ?_); rintro e w1 ⟨rfl, hb1⟩; have HX1 : Hid (Blk w1 W.heap.size #[.int .i64 y0, .int .i64 y1, .int .i64 y2, .int .i64 y3] 89) := hbx.out.below hb1 hbx.out.lt; have HB1 : Hid (Below W.heap.size W w1) := hb.out.trans (hb1.mono hb.out.size); have d1' := HX1.out.cell 2 (v := .int .i64 y2) rfl; have e1' := HX1.out.fz 2; clear hb1))
        go_roundw
        case rel => exact ⟨3, y0, y1, v, y3, by omega, rfl, HX1.out.set 2 _, HB1.out.setCell (p := ⟨W.heap.size, 2, none⟩) (Nat.le_refl _) _, fun _ => hq.out.1 (by omega), fun _ => hq.out.2.1 (by omega), fun _ => HAT.out, by omega⟩
        case measure => simp [intOf]
      | none =>
        have HA : Hid (Calls Tryd.prog 57 #[.string x3] wr fun e w' => ∃ v t x, e = .returned (.tuple #[.int .i64 v, .iface t x]) ∧ Below wr.heap.size wr w') := atoi_no x3 wr (by omega) (HE.out _ hb.out) (by rw [HP3.out]; exact hat)
        have HQ : Hid (arcQ p = none) := by show _ = _; unfold arcQ; rw [hq.out.1 (by omega), hq.out.2.1 (by omega), hat]; rfl
        clear hat
        go_wp2_with (first
          | (go_at_call 57; (with_reducible refine (HA.out).mono ?_); rintro e w1 ⟨vv, tt, xx, rfl, hb1⟩; have HB1 : Hid (Below W.heap.size W w1) := hb.out.trans (hb1.mono hb.out.size); clear hb1))
        refine bodyPost_ret (v := .bool false) (by simp [results, Tryd.results44, go_sem]) rfl ?_
        exact ⟨(HK.out _ HB1.out).1, (HK.out _ HB1.out).2, .inr ⟨rfl, HQ.out⟩⟩
    · have c1 := (hb.out.cell (p := ⟨bk, 4, none⟩) hbk).trans HC4.out
      have d3 := hbx.out.cell 3 (v := .int .i64 y3) rfl
      have e3 := hbx.out.fz 3
      obtain ⟨r, hat⟩ : ∃ r, atO (wd p 4) = r := ⟨_, rfl⟩
      cases r with
      | some v =>
        have HA : Hid (∀ w : World, Calls Tryd.prog 57 #[.string x4] w fun e w' => e = .returned (.tuple #[.int .i64 v, .nilIface]) ∧ Below w.heap.size w w') := fun w => atoi_ok x4 w (by omega) v (by rw [HP4.out]; exact hat)
        have HAT : Hid (atO (wd p 4) = some v) := hat
        clear hat
        go_wp2_with (first
          | (go_at_call 57; (with_reducible refine (HA.out _).mono ?_); rintro e w1 ⟨rfl, hb1⟩; have HX1 : Hid (Blk w1 W.heap.size #[.int .i64 y0, .int .i64 y1, .int .i64 y2, .int .i64 y3] 89) := hbx.out.below hb1 hbx.out.lt; have HB1 : Hid (Below W.heap.size W w1) := hb.out.trans (hb1.mono hb.out.size); have d1' := HX1.out.cell 3 (v := .int .i64 y3) rfl; have e1' := HX1.out.fz 3; clear hb1))
        go_roundw
        case rel => exact ⟨4, y0, y1, y2, v, by omega, rfl, HX1.out.set 3 _, HB1.out.setCell (p := ⟨W.heap.size, 3, none⟩) (Nat.le_refl _) _, fun _ => hq.out.1 (by omega), fun _ => hq.out.2.1 (by omega), fun _ => hq.out.2.2.1 (by omega), fun _ => HAT.out⟩
        case measure => simp [intOf]
      | none =>
        have HA : Hid (Calls Tryd.prog 57 #[.string x4] wr fun e w' => ∃ v t x, e = .returned (.tuple #[.int .i64 v, .iface t x]) ∧ Below wr.heap.size wr w') := atoi_no x4 wr (by omega) (HE.out _ hb.out) (by rw [HP4.out]; exact hat)
        have HQ : Hid (arcQ p = none) := by show _ = _; unfold arcQ; rw [hq.out.1 (by omega), hq.out.2.1 (by omega), hq.out.2.2.1 (by omega), hat]; rfl
        clear hat
        go_wp2_with (first
          | (go_at_call 57; (with_reducible refine (HA.out).mono ?_); rintro e w1 ⟨vv, tt, xx, rfl, hb1⟩; have HB1 : Hid (Below W.heap.size W w1) := hb.out.trans (hb1.mono hb.out.size); clear hb1))
        refine bodyPost_ret (v := .bool false) (by simp [results, Tryd.results44, go_sem]) rfl ?_
        exact ⟨(HK.out _ HB1.out).1, (HK.out _ HB1.out).2, .inr ⟨rfl, HQ.out⟩⟩
    · have HQ : Hid (arcQ p = some (y1, y2, y3, y0)) := by show _ = _; unfold arcQ; rw [hq.out.1 (by omega), hq.out.2.1 (by omega), hq.out.2.2.1 (by omega), hq.out.2.2.2 (by omega)]; rfl
      have HO1 : OwnApt wr.drew.drew base (.slice a (t.length + 1) cap) (t ++ [sl]) := HO.out.later hb.out.drew.drew
      have hbs := hb.out.size
      obtain ⟨g, cap2, a4, c4, hv, hbg, hgl, hc, a5, c5, w4, hr, hc4, hf4, hb4, ho4, hk4, hk5⟩ := arc_kept HO1 (by show base ≤ wr.heap.size; omega) (y1, y2, y3, y0) (by omega)
      injection hv with hv1 _ hv3
      subst hv1 hv3
      have HB1 : Hid (Blk wr M #[.int .i64 z, .slice (some ⟨g, 0, none⟩) (t.length + 1) cap] 24) := HB.out.below hb.out hlt
      have m1 := HB1.out.cell 1 (v := .slice (some ⟨g, 0, none⟩) (t.length + 1) cap) rfl
      have hqw : IntKind.i64.wrap (t.length : Int) = (t.length : Int) := wrapI (by omega) (by omega)
      have k0 : (0 : Int) ≤ (t.length : Int) := by omega
      have k1 : (t.length : Int) < (t.length : Int) + 1 := by omega
      go_wp2
      have HSM : HeldM M (.slice (some ⟨g, 0, none⟩) (t.length + 1) cap) wr.drew := ⟨m1, trivial⟩
      refine region_anyL (HeldM M (.slice (some ⟨g, 0, none⟩) (t.length + 1) cap)) 1000 (by kernel_rfl) ?_
      refine anyL_take (i := 0) (v := ?v0_70) at0 (by kernel_rfl) (by kernel_rfl) (by kernel_rfl) (by kernel_rfl) (fun _ _ _ h => h) rfl ?y0_70 HSM ?r0_70
      case y0_70 => intro wx hx; obtain ⟨h1, _⟩ := hx; go_simp; try (with_reducible rfl)
      simp only [Act.put, List.setIfInBounds_toArray, List.set_cons_zero, List.set_cons_succ]
      refine anyL_take (i := 1) (v := ?v1_71) (atS at0) (by kernel_rfl) (by kernel_rfl) (by kernel_rfl) (by kernel_rfl) (fun _ _ _ h => h) rfl ?y1_71 HSM ?r1_71
      case y1_71 => intro wx hx; obtain ⟨h1, _⟩ := hx; go_simp; try (with_reducible rfl)
      simp only [Act.put, List.setIfInBounds_toArray, List.set_cons_zero, List.set_cons_succ]
      refine anyL_take (i := 2) (v := ?v2_72) (atS (atS at0)) (by kernel_rfl) (by kernel_rfl) (by kernel_rfl) (by kernel_rfl) (fun _ _ _ h => h) rfl ?y2_72 HSM ?r2_72
      case y2_72 => intro wx hx; obtain ⟨h1, _⟩ := hx; go_simp; try (with_reducible rfl)
      simp only [Act.put, List.setIfInBounds_toArray, List.set_cons_zero, List.set_cons_succ]
      refine anyL_take (i := 3) (v := ?v3_73) (atS (atS (atS at0))) (by kernel_rfl) (by kernel_rfl) (by kernel_rfl) (by kernel_rfl) (fun _ _ _ h => h) rfl ?y3_73 HSM ?r3_73
      case y3_73 => intro wx hx; obtain ⟨h1, _⟩ := hx; go_simp; try (with_reducible rfl)
      simp only [Act.put, List.setIfInBounds_toArray, List.set_cons_zero, List.set_cons_succ]
      refine anyL_take (i := 4) (v := ?v4_74) (atS (atS (atS (atS at0)))) (by kernel_rfl) (by kernel_rfl) (by kernel_rfl) (by kernel_rfl) (fun _ _ _ h => h) rfl ?y4_74 HSM ?r4_74
      case y4_74 => intro wx hx; obtain ⟨h1, _⟩ := hx; go_simp; try (with_reducible rfl)
      simp only [Act.put, List.setIfInBounds_toArray, List.set_cons_zero, List.set_cons_succ]
      refine anyL_take (i := 5) (v := ?v5_75) (atS (atS (atS (atS (atS at0))))) (by kernel_rfl) (by kernel_rfl) (by kernel_rfl) (by kernel_rfl) (fun _ _ _ h => h) rfl ?y5_75 HSM ?r5_75
      case y5_75 => intro wx hx; obtain ⟨h1, _⟩ := hx; go_simp; try (with_reducible rfl)
      simp only [Act.put, List.setIfInBounds_toArray, List.set_cons_zero, List.set_cons_succ]
      refine anyL_take (i := 6) (v := ?v6_76) (atS (atS (atS (atS (atS (atS at0)))))) (by kernel_rfl) (by kernel_rfl) (by kernel_rfl) (by kernel_rfl) (fun _ _ _ h => h) rfl ?y6_76 HSM ?r6_76
      case y6_76 => intro wx hx; obtain ⟨h1, _⟩ := hx; go_simp; try (with_reducible rfl)
      simp only [Act.put, List.setIfInBounds_toArray, List.set_cons_zero, List.set_cons_succ]
      refine anyL_take (i := 7) (v := ?v7_77) (atS (atS (atS (atS (atS (atS (atS at0))))))) (by kernel_rfl) (by kernel_rfl) (by kernel_rfl) (by kernel_rfl) (fun _ _ _ h => h) rfl ?y7_77 HSM ?r7_77
      case y7_77 => intro wx hx; obtain ⟨h1, _⟩ := hx; go_simp; try (with_reducible rfl)
      simp only [Act.put, List.setIfInBounds_toArray, List.set_cons_zero, List.set_cons_succ]
      refine anyL_take (i := 8) (v := ?v8_78) (atS (atS (atS (atS (atS (atS (atS (atS at0)))))))) (by kernel_rfl) (by kernel_rfl) (by kernel_rfl) (by kernel_rfl) (fun _ _ _ h => h) rfl ?y8_78 HSM ?r8_78
      case y8_78 => intro wx hx; obtain ⟨h1, _⟩ := hx; go_simp; try (with_reducible rfl)
      simp only [Act.put, List.setIfInBounds_toArray, List.set_cons_zero, List.set_cons_succ]
      refine anyL_take (i := 9) (v := ?v9_79) (atS (atS (atS (atS (atS (atS (atS (atS (atS at0))))))))) (by kernel_rfl) (by kernel_rfl) (by kernel_rfl) (by kernel_rfl) (fun _ _ _ h => h) rfl ?y9_79 HSM ?r9_79
      case y9_79 => intro wx hx; obtain ⟨h1, _⟩ := hx; go_simp; try (with_reducible rfl)
      simp only [Act.put, List.setIfInBounds_toArray, List.set_cons_zero, List.set_cons_succ]
      refine anyL_take (i := 10) (v := ?v10_80) (atS (atS (atS (atS (atS (atS (atS (atS (atS (atS at0)))))))))) (by kernel_rfl) (by kernel_rfl) (by kernel_rfl) (by kernel_rfl) (fun _ _ _ h => h) rfl ?y10_80 HSM ?r10_80
      case y10_80 => intro wx hx; obtain ⟨h1, _⟩ := hx; go_simp; try (with_reducible rfl)
      simp only [Act.put, List.setIfInBounds_toArray, List.set_cons_zero, List.set_cons_succ]
      refine anyL_one (i := 11) (atS (atS (atS (atS (atS (atS (atS (atS (atS (atS (atS at0))))))))))) (by kernel_rfl) rfl (fun K hK => ?_)
      go_simp
      refine hK _ _ (.inr HSM) (anyL_done (by kernel_rfl) (NoPanic.normal ?_))
      try simp only [Act.put, List.setIfInBounds_toArray, List.set_cons_zero, List.set_cons_succ]
      go_wp2
      have HX4 : Hid (Blk w4 W.heap.size #[.int .i64 y0, .int .i64 y1, .int .i64 y2, .int .i64 y3] 89) := hk4.blk hbx.out.drew.drew (by simp) (by decide) (by decide)
      have HM4 : Hid (Blk w4 M #[.int .i64 z, .slice (some ⟨g, 0, none⟩) (t.length + 1) cap] 24) := hk4.blk HB1.out.drew.drew (by simp) (by decide) (by decide)
      have HS : HeldZ g t.length W.heap.size (.slice a4 sl.2.length c4) y0 y1 y2 y3 wr.drew.drew := ⟨hc, hbx.out.cell 0 rfl, hbx.out.cell 1 rfl, hbx.out.cell 2 rfl, hbx.out.cell 3 rfl⟩
      have HSA : HeldZ g t.length W.heap.size (.slice a4 sl.2.length c4) y0 y1 y2 y3 (wr.drew.drew.alloc (.cells #[.int .i64 y1, .int .i64 y2, .int .i64 y3, .int .i64 y0] 46)) := by
        have hx := hbx.out.drew.drew.alloc (.cells #[.int .i64 y1, .int .i64 y2, .int .i64 y3, .int .i64 y0] 46)
        exact ⟨(((Below.refl wr.drew.drew.heap.size wr.drew.drew).alloc (Nat.le_refl _) _).cell (p := ⟨g, t.length * 2 + 1, none⟩) hgl).trans hc, hx.cell 0 rfl, hx.cell 1 rfl, hx.cell 2 rfl, hx.cell 3 rfl⟩
      have HS4 : HeldZ g t.length W.heap.size (.slice a4 sl.2.length c4) y0 y1 y2 y3 w4 := ⟨hc4, HX4.out.cell 0 rfl, HX4.out.cell 1 rfl, HX4.out.cell 2 rfl, HX4.out.cell 3 rfl⟩
      have R4 : Hid ((Builtin.append_ #[35, 35] 35 #[.slice a4 sl.2.length c4, .slice (some ⟨wr.drew.drew.heap.size, 0, none⟩) 1 1]).run Tryd.prog (wr.drew.drew.alloc (.cells #[.int .i64 y1, .int .i64 y2, .int .i64 y3, .int .i64 y0] 46)) = .ok (.slice a5 (sl.2.length + 1) c5) w4) := hr
      have HO4 : Hid (OwnApt (w4.setCell ⟨g, t.length * 2 + 1, none⟩ (.slice a5 (sl.2.length + 1) c5)) base (.slice (some ⟨g, 0, none⟩) (t.length + 1) cap) (t ++ [(sl.1, sl.2 ++ [(y1, y2, y3, y0)])])) := ho4
      have HM5 : Hid (Blk (w4.setCell ⟨g, t.length * 2 + 1, none⟩ (.slice a5 (sl.2.length + 1) c5)) M #[.int .i64 z, .slice (some ⟨g, 0, none⟩) (t.length + 1) cap] 24) := HM4.out.setO _ _ (by show M ≠ g; omega)
      have HW5 : Hid (Below M W (w4.setCell ⟨g, t.length * 2 + 1, none⟩ (.slice a5 (sl.2.length + 1) c5))) := (((hb.out.drew.drew).mono (by omega)).trans (hb4.mono (by omega))).setCell (p := ⟨g, t.length * 2 + 1, none⟩) (by show M ≤ g; omega) _
      have HK5 : Hid (Kept (some M) W (w4.setCell ⟨g, t.length * 2 + 1, none⟩ (.slice a5 (sl.2.length + 1) c5))) := (((Kept.of hb.out.drew.drew).trans hk4).trans hk5).any _
      clear hr ho4 hk4 hk5 hb4 HO1 HSM
      refine region_anyL (HeldZ g t.length W.heap.size (.slice a4 sl.2.length c4) y0 y1 y2 y3) 18 (by kernel_rfl) ?_
      refine anyL_take (i := 0) (v := ?v0_81) at0 (by kernel_rfl) (by kernel_rfl) (by kernel_rfl) (by kernel_rfl) (fun _ _ _ h => h) rfl ?y0_81 HS ?r0_81
      case y0_81 => intro wx hx; obtain ⟨h1, h2, h3, h4, h5⟩ := hx; go_simp; try (with_reducible rfl)
      simp only [Act.put, List.setIfInBounds_toArray, List.set_cons_zero, List.set_cons_succ]
      refine anyL_take (i := 1) (v := ?v1_82) (atS at0) (by kernel_rfl) (by kernel_rfl) (by kernel_rfl) (by kernel_rfl) (fun _ _ _ h => h) rfl ?y1_82 HS ?r1_82
      case y1_82 => intro wx hx; obtain ⟨h1, h2, h3, h4, h5⟩ := hx; go_simp; try (with_reducible rfl)
      simp only [Act.put, List.setIfInBounds_toArray, List.set_cons_zero, List.set_cons_succ]
      refine anyL_take (i := 2) (v := ?v2_83) (atS (atS at0)) (by kernel_rfl) (by kernel_rfl) (by kernel_rfl) (by kernel_rfl) (fun _ _ _ h => h) rfl ?y2_83 HS ?r2_83
      case y2_83 => intro wx hx; obtain ⟨h1, h2, h3, h4, h5⟩ := hx; go_simp; try (with_reducible rfl)
      simp only [Act.put, List.setIfInBounds_toArray, List.set_cons_zero, List.set_cons_succ]
      refine anyL_take (i := 3) (v := ?v3_84) (atS (atS (atS at0))) (by kernel_rfl) (by kernel_rfl) (by kernel_rfl) (by kernel_rfl) (fun _ _ _ h => h) rfl ?y3_84 HS ?r3_84
      case y3_84 => intro wx hx; obtain ⟨h1, h2, h3, h4, h5⟩ := hx; go_simp; try (with_reducible rfl)
      simp only [Act.put, List.setIfInBounds_toArray, List.set_cons_zero, List.set_cons_succ]
      refine anyL_take (i := 4) (v := ?v4_85) (atS (atS (atS (atS at0)))) (by kernel_rfl) (by kernel_rfl) (by kernel_rfl) (by kernel_rfl) (fun _ _ _ h => h) rfl ?y4_85 HS ?r4_85
      case y4_85 => intro wx hx; obtain ⟨h1, h2, h3, h4, h5⟩ := hx; go_simp; try (with_reducible rfl)
      simp only [Act.put, List.setIfInBounds_toArray, List.set_cons_zero, List.set_cons_succ]
      refine anyL_take (i := 5) (v := ?v5_86) (atS (atS (atS (atS (atS at0))))) (by kernel_rfl) (by kernel_rfl) (by kernel_rfl) (by kernel_rfl) (fun _ _ _ h => h) rfl ?y5_86 HS ?r5_86
      case y5_86 => intro wx hx; obtain ⟨h1, h2, h3, h4, h5⟩ := hx; go_simp; try (with_reducible rfl)
      simp only [Act.put, List.setIfInBounds_toArray, List.set_cons_zero, List.set_cons_succ]
      refine anyL_take (i := 6) (v := ?v6_87) (atS (atS (atS (atS (atS (atS at0)))))) (by kernel_rfl) (by kernel_rfl) (by kernel_rfl) (by kernel_rfl) (fun _ _ _ h => h) rfl ?y6_87 HS ?r6_87
      case y6_87 => intro wx hx; obtain ⟨h1, h2, h3, h4, h5⟩ := hx; go_simp; try (with_reducible rfl)
      simp only [Act.put, List.setIfInBounds_toArray, List.set_cons_zero, List.set_cons_succ]
      refine anyL_take (i := 7) (v := ?v7_88) (atS (atS (atS (atS (atS (atS (atS at0))))))) (by kernel_rfl) (by kernel_rfl) (by kernel_rfl) (by kernel_rfl) (fun _ _ _ h => h) rfl ?y7_88 HS ?r7_88
      case y7_88 => intro wx hx; obtain ⟨h1, h2, h3, h4, h5⟩ := hx; go_simp; try (with_reducible rfl)
      simp only [Act.put, List.setIfInBounds_toArray, List.set_cons_zero, List.set_cons_succ]
      refine anyL_take (i := 8) (v := ?v8_89) (atS (atS (atS (atS (atS (atS (atS (atS at0)))))))) (by kernel_rfl) (by kernel_rfl) (by kernel_rfl) (by kernel_rfl) (fun _ _ _ h => h) rfl ?y8_89 HS ?r8_89
      case y8_89 => intro wx hx; obtain ⟨h1, h2, h3, h4, h5⟩ := hx; go_simp; try (with_reducible rfl)
      simp only [Act.put, List.setIfInBounds_toArray, List.set_cons_zero, List.set_cons_succ]
      refine anyL_take (i := 9) (v := ?v9_90) (atS (atS (atS (atS (atS (atS (atS (atS (atS at0))))))))) (by kernel_rfl) (by kernel_rfl) (by kernel_rfl) (by kernel_rfl) (fun _ _ _ h => h) rfl ?y9_90 HS ?r9_90
      case y9_90 => intro wx hx; obtain ⟨h1, h2, h3, h4, h5⟩ := hx; go_simp; try (with_reducible rfl)
      simp only [Act.put, List.setIfInBounds_toArray, List.set_cons_zero, List.set_cons_succ]
      refine anyL_take (i := 10) (v := ?v10_91) (atS (atS (atS (atS (atS (atS (atS (atS (atS (atS at0)))))))))) (by kernel_rfl) (by kernel_rfl) (by kernel_rfl) (by kernel_rfl) (fun _ _ _ h => h) rfl ?y10_91 HS ?r10_91
      case y10_91 => intro wx hx; obtain ⟨h1, h2, h3, h4, h5⟩ := hx; go_simp; try (with_reducible rfl)
      simp only [Act.put, List.setIfInBounds_toArray, List.set_cons_zero, List.set_cons_succ]
      refine anyL_take (i := 11) (v := ?v11_92) (atS (atS (atS (atS (atS (atS (atS (atS (atS (atS (atS at0))))))))))) (by kernel_rfl) (by kernel_rfl) (by kernel_rfl) (by kernel_rfl) (fun _ _ _ h => h) rfl ?y11_92 HS ?r11_92
      case y11_92 => intro wx hx; obtain ⟨h1, h2, h3, h4, h5⟩ := hx; go_simp; try (with_reducible rfl)
      simp only [Act.put, List.setIfInBounds_toArray, List.set_cons_zero, List.set_cons_succ]
      refine anyL_take (i := 12) (v := ?v12_93) (atS (atS (atS (atS (atS (atS (atS (atS (atS (atS (atS (atS at0)))))))))))) (by kernel_rfl) (by kernel_rfl) (by kernel_rfl) (by kernel_rfl) (fun _ _ _ h => h) rfl ?y12_93 HS ?r12_93
      case y12_93 => intro wx hx; obtain ⟨h1, h2, h3, h4, h5⟩ := hx; go_simp; try (with_reducible rfl)
      simp only [Act.put, List.setIfInBounds_toArray, List.set_cons_zero, List.set_cons_succ]
      refine anyL_take (i := 13) (v := ?v13_94) (atS (atS (atS (atS (atS (atS (atS (atS (atS (atS (atS (atS (atS at0))))))))))))) (by kernel_rfl) (by kernel_rfl) (by kernel_rfl) (by kernel_rfl) (fun _ _ _ h => h) rfl ?y13_94 HS ?r13_94
      case y13_94 => intro wx hx; obtain ⟨h1, h2, h3, h4, h5⟩ := hx; go_simp; try (with_reducible rfl)
      simp only [Act.put, List.setIfInBounds_toArray, List.set_cons_zero, List.set_cons_succ]
      refine anyL_one (i := 14) (atS (atS (atS (atS (atS (atS (atS (atS (atS (atS (atS (atS (atS (atS at0)))))))))))))) (by kernel_rfl) rfl (fun K hK => ?_)
      go_simp
      refine hK _ _ (.inr HSA) ?_
      try simp only [Act.put, List.setIfInBounds_toArray, List.set_cons_zero, List.set_cons_succ]
      refine anyL_one (i := 15) (atS (atS (atS (atS (atS (atS (atS (atS (atS (atS (atS (atS (atS (atS (atS at0))))))))))))))) (by kernel_rfl) rfl (fun K hK => ?_)
      refine wp_append_run (.tmp 48) (.tmp 58) 35 rfl rfl rfl R4.out ?_
      refine hK _ _ (.inr HS4) ?_
      try simp only [Act.put, List.setIfInBounds_toArray, List.set_cons_zero, List.set_cons_succ]
      refine anyL_one (i := 16) (atS (atS (atS (atS (atS (atS (atS (atS (atS (atS (atS (atS (atS (atS (atS (atS at0)))))))))))))))) (by kernel_rfl) rfl (fun K hK => ?_)
      go_simp
      refine hK _ _ (.inr HS4) ?_
      try simp only [Act.put, List.setIfInBounds_toArray, List.set_cons_zero, List.set_cons_succ]
      refine anyL_take (i := 17) (v := ?v17_95) (atS (atS (atS (atS (atS (atS (atS (atS (atS (atS (atS (atS (atS (atS (atS (atS (atS at0))))))))))))))))) (by kernel_rfl) (by kernel_rfl) (by kernel_rfl) (by kernel_rfl) (fun _ _ _ h => h) rfl ?y17_95 HS4 ?r17_95
      case y17_95 => intro wx hx; obtain ⟨h1, h2, h3, h4, h5⟩ := hx; go_simp; try (with_reducible rfl)
      simp only [Act.put, List.setIfInBounds_toArray, List.set_cons_zero, List.set_cons_succ]
      refine anyL_one (i := 18) (atS (atS (atS (atS (atS (atS (atS (atS (atS (atS (atS (atS (atS (atS (atS (atS (atS (atS at0)))))))))))))))))) (by kernel_rfl) rfl (fun K hK => ?_)
      go_simp
      refine hK _ _ (.inl rfl) (anyL_done (by kernel_rfl) (NoPanic.normal ?_))
      try simp only [Act.put, List.setIfInBounds_toArray, List.set_cons_zero, List.set_cons_succ]
      clear HS HSA HS4 hc4 hf4
      go_wp2
      refine bodyPost_ret (v := .bool true) (by simp [results, Tryd.results44, go_sem]) rfl ?_
      exact ⟨HW5.out, HK5.out, .inl ⟨rfl, y1, y2, y3, y0, HQ.out, _, HM5.out, HO4.out⟩⟩
end Go.Proofs.YthaefajpdncoeaaDoor.Wt
namespace Go.Proofs.YthaefajpdncoeaaDoor.Wt
open Go.ChangeShapes Go.WideShapes Go.ChangeAt Go.RowKit
open Go.Proofs.YthaefajpdncoeaaDoor.Pl
set_option linter.unusedVariables false
set_option linter.unusedSimpArgs false
theorem addArc_nil (base M bk : Nat) (z : Int) (W : World) (h : MacAt base M z [] W) :
    Calls Tryd.prog 44 #[.pointer (some ⟨M, 0, none⟩), .slice (some ⟨bk, 1, none⟩) 4 4] W fun e W' => e = .returned (.bool false) ∧ W' = W := by
  obtain ⟨v, hb, ho⟩ := h
  obtain ⟨a, cap, rfl⟩ := ho.sl
  have m1 := hb.cell 1 (v := .slice a 0 cap) rfl
  clear ho hb
  go_enter Tryd.func44, Tryd.ntmps44
  go_wp2
  go_ret
  exact ⟨rfl, rfl⟩
/-- What add answers. -/
def AddAns (base M : Nat) (m : Mc) (p : List (List UInt8)) (W : World) (e : Ending) (W' : World) : Prop :=
  Below M W W' ∧ Kept (some M) W W' ∧ ((e = .returned (.bool true) ∧ ∃ r : Mc, addP m p = some r ∧ MacAt base M r.1 r.2 W') ∨ (e = .returned (.bool false) ∧ addP m p = none))
theorem add_else (base M bk : Nat) (z : Int) (l : List St) (x0 : ByteArray) (n : Nat) (p : List (List UInt8)) (W : World) (hc : W.cell? ⟨bk, 0, none⟩ = some (.string x0)) (hn : 0 < n) (hn2 : n ≤ 30000) (hp : p.length = n) (hp0 : wd p 0 = x0.data.toList)
    (h1 : ¬ (wd p 0 = wStart ∧ p.length = 2)) (h2 : ¬ (wd p 0 = wState ∧ p.length = 2)) (h3 : ¬ (wd p 0 = wArc ∧ p.length = 5)) :
    Calls Tryd.prog 24 #[.pointer (some ⟨M, 0, none⟩), .slice (some ⟨bk, 0, none⟩) n n] W fun e W' => AddAns base M (z, l) p W e W' := by
  have HQ : Hid (AddAns base M (z, l) p W (.returned (.bool false)) W) := by
    refine ⟨Below.refl _ _, Kept.refl _ _, .inr ⟨rfl, ?_⟩⟩
    unfold addP
    rw [if_neg h1, if_neg h2, if_neg (fun h => h3 ⟨h.1, h.2.1⟩)]
  have hn' : (0 : Int) < (n : Int) := by omega
  rw [hp0, hp] at h1 h2 h3
  clear hp0 hp
  by_cases c1 : x0.data.toList = wStart
  · have n2 : ((n : Int) == 2) = false := beq_eq_false_iff_ne.2 (fun e => h1 ⟨c1, by omega⟩)
    have e1 : (x0.toList == [115, 116, 97, 114, 116]) = true := eq_toList c1
    have e2 : (x0.toList == [115, 116, 97, 116, 101]) = false := ne_toList (by rw [c1]; decide)
    have e3 : (x0.toList == [97, 114, 99]) = false := ne_toList (by rw [c1]; decide)
    clear c1 h1 h2 h3
    go_enter Tryd.func24, Tryd.ntmps24
    go_wp2
    refine bodyPost_ret (v := .bool false) (by simp [results, Tryd.results24, go_sem]) rfl HQ.out
  · have e1 : (x0.toList == [115, 116, 97, 114, 116]) = false := ne_toList c1
    by_cases c2 : x0.data.toList = wState
    · have n2 : ((n : Int) == 2) = false := beq_eq_false_iff_ne.2 (fun e => h2 ⟨c2, by omega⟩)
      have e2 : (x0.toList == [115, 116, 97, 116, 101]) = true := eq_toList c2
      have e3 : (x0.toList == [97, 114, 99]) = false := ne_toList (by rw [c2]; decide)
      clear c1 c2 h1 h2 h3
      go_enter Tryd.func24, Tryd.ntmps24
      go_wp2
      refine bodyPost_ret (v := .bool false) (by simp [results, Tryd.results24, go_sem]) rfl HQ.out
    · have e2 : (x0.toList == [115, 116, 97, 116, 101]) = false := ne_toList c2
      by_cases c3 : x0.data.toList = wArc
      · have n2 : ((n : Int) == 5) = false := beq_eq_false_iff_ne.2 (fun e => h3 ⟨c3, by omega⟩)
        have e3 : (x0.toList == [97, 114, 99]) = true := eq_toList c3
        clear c1 c2 c3 h1 h2 h3
        go_enter Tryd.func24, Tryd.ntmps24
        go_wp2
        refine bodyPost_ret (v := .bool false) (by simp [results, Tryd.results24, go_sem]) rfl HQ.out
      · have e3 : (x0.toList == [97, 114, 99]) = false := ne_toList c3
        clear c1 c2 c3 h1 h2 h3
        go_enter Tryd.func24, Tryd.ntmps24
        go_wp2
        refine bodyPost_ret (v := .bool false) (by simp [results, Tryd.results24, go_sem]) rfl HQ.out
theorem add_start (base M bk : Nat) (z : Int) (l : List St) (x0 x1 : ByteArray) (W : World) (h : MacAt base M z l W) (hM : M < base) (hs : Wds W bk [x0, x1]) (he : Errs W) (hz : x1.size ≤ 20000) (c1 : x0.data.toList = wStart) :
    Calls Tryd.prog 24 #[.pointer (some ⟨M, 0, none⟩), .slice (some ⟨bk, 0, none⟩) 2 2] W fun e W' => AddAns base M (z, l) [x0.data.toList, x1.data.toList] W e W' := by
  have HA : Hid (Calls Tryd.prog 42 #[.pointer (some ⟨M, 0, none⟩), .string x1] W fun e W' => ∃ b, e = .returned (.bool b) ∧ AddAns base M (z, l) [x0.data.toList, x1.data.toList] W e W') := by
    refine (addStart_any base M z l x1 W h hM hz he).mono ?_
    have ep : addP (z, l) [x0.data.toList, x1.data.toList] = (startQ x1.data.toList).map fun z => (z, l) := by unfold addP; rw [if_pos ⟨c1, rfl⟩]; rfl
    rintro e w' ⟨hb, hk, ⟨rfl, z', hq, hm⟩ | ⟨rfl, hq⟩⟩
    · exact ⟨true, rfl, hb, hk, .inl ⟨rfl, (z', l), by rw [ep, hq]; rfl, hm⟩⟩
    · exact ⟨false, rfl, hb, hk, .inr ⟨rfl, by rw [ep, hq]; rfl⟩⟩
  have d0 : W.cell? ⟨bk, 0, none⟩ = some (.string x0) := hs.2 0 x0 rfl
  have d1 : W.cell? ⟨bk, 1, none⟩ = some (.string x1) := hs.2 1 x1 rfl
  have e1 : (x0.toList == [115, 116, 97, 114, 116]) = true := eq_toList c1
  clear h hs he c1
  go_enter Tryd.func24, Tryd.ntmps24
  go_wp2_with (first | (go_at_call 42; (with_reducible refine HA.out.mono ?_); rintro e w1 ⟨b, rfl, hq⟩; have HQ : Hid (AddAns base M (z, l) [x0.data.toList, x1.data.toList] W (.returned (.bool b)) w1) := hq; clear hq))
  exact bodyPost_ret (v := .bool b) (by simp [results, Tryd.results24, go_sem]) rfl HQ.out
theorem add_state (base M bk : Nat) (z : Int) (l : List St) (x0 x1 : ByteArray) (W : World) (h : MacAt base M z l W) (hM : M < base) (hbW : base ≤ W.heap.size) (hs : Wds W bk [x0, x1]) (hz : x1.size ≤ 20000) (hl : l.length ≤ 100000) (c1 : x0.data.toList = wState) :
    Calls Tryd.prog 24 #[.pointer (some ⟨M, 0, none⟩), .slice (some ⟨bk, 0, none⟩) 2 2] W fun e W' => AddAns base M (z, l) [x0.data.toList, x1.data.toList] W e W' := by
  have HA : Hid (Calls Tryd.prog 43 #[.pointer (some ⟨M, 0, none⟩), .string x1] W fun e W' => ∃ b, e = .returned (.bool b) ∧ AddAns base M (z, l) [x0.data.toList, x1.data.toList] W e W') := by
    refine (addState_any base M z l x1 W h hM hbW hz hl).mono ?_
    have ep : addP (z, l) [x0.data.toList, x1.data.toList] = (finQ x1.data.toList).map fun f => (z, l ++ [(f, [])]) := by
      unfold addP
      rw [show wd [x0.data.toList, x1.data.toList] 0 = wState from c1, if_neg (by rintro ⟨e, _⟩; revert e; decide), if_pos ⟨rfl, rfl⟩]; rfl
    rintro e w' ⟨hb, hk, ⟨rfl, f, hq, hm⟩ | ⟨rfl, hq⟩⟩
    · exact ⟨true, rfl, hb, hk, .inl ⟨rfl, (z, l ++ [(f, [])]), by rw [ep, hq]; rfl, hm⟩⟩
    · exact ⟨false, rfl, hb, hk, .inr ⟨rfl, by rw [ep, hq]; rfl⟩⟩
  have d0 : W.cell? ⟨bk, 0, none⟩ = some (.string x0) := hs.2 0 x0 rfl
  have d1 : W.cell? ⟨bk, 1, none⟩ = some (.string x1) := hs.2 1 x1 rfl
  have e1 : (x0.toList == [115, 116, 97, 114, 116]) = false := ne_toList (by rw [c1]; decide)
  have e2 : (x0.toList == [115, 116, 97, 116, 101]) = true := eq_toList c1
  clear h hs c1
  go_enter Tryd.func24, Tryd.ntmps24
  go_wp2_with (first | (go_at_call 43; (with_reducible refine HA.out.mono ?_); rintro e w1 ⟨b, rfl, hq⟩; have HQ : Hid (AddAns base M (z, l) [x0.data.toList, x1.data.toList] W (.returned (.bool b)) w1) := hq; clear hq))
  exact bodyPost_ret (v := .bool b) (by simp [results, Tryd.results24, go_sem]) rfl HQ.out
theorem add_arc (base M bk : Nat) (z : Int) (l : List St) (x0 x1 x2 x3 x4 : ByteArray) (W : World) (h : MacAt base M z l W) (hM : M < base) (hbW : base ≤ W.heap.size) (hs : Wds W bk [x0, x1, x2, x3, x4]) (he : Errs W) (z1 : x1.size ≤ 20000) (z2 : x2.size ≤ 20000) (z3 : x3.size ≤ 20000) (z4 : x4.size ≤ 20000) (hf : Few 100000 l) (c1 : x0.data.toList = wArc) :
    Calls Tryd.prog 24 #[.pointer (some ⟨M, 0, none⟩), .slice (some ⟨bk, 0, none⟩) 5 5] W fun e W' => AddAns base M (z, l) [x0.data.toList, x1.data.toList, x2.data.toList, x3.data.toList, x4.data.toList] W e W' := by
  generalize hp : [x0.data.toList, x1.data.toList, x2.data.toList, x3.data.toList, x4.data.toList] = p
  have hp0 : wd p 0 = wArc := by rw [← hp]; exact c1
  have hpl : p.length = 5 := by rw [← hp]; rfl
  have ep : addP (z, l) p = if l ≠ [] then (arcQ p).map fun a => (z, addArc l a) else none := by
    unfold addP
    rw [hp0, if_neg (by rintro ⟨e, _⟩; revert e; decide), if_neg (by rintro ⟨e, _⟩; revert e; decide)]
    by_cases h0 : l ≠ []
    · rw [if_pos ⟨rfl, hpl, h0⟩, if_pos h0]
    · rw [if_neg (fun h => h0 h.2.2), if_neg h0]
  have HA : Hid (Calls Tryd.prog 44 #[.pointer (some ⟨M, 0, none⟩), .slice (some ⟨bk, 1, none⟩) 4 4] W fun e W' => ∃ b, e = .returned (.bool b) ∧ AddAns base M (z, l) p W e W') := by
    by_cases h0 : l = []
    · subst h0
      refine (addArc_nil base M bk z W h).mono ?_
      rintro e w' ⟨rfl, rfl⟩
      exact ⟨false, rfl, Below.refl _ _, Kept.refl _ _, .inr ⟨rfl, by rw [ep, if_neg (by simp)]⟩⟩
    · obtain ⟨t, sl, rfl⟩ := snoc_of h0
      refine (addArc_any base M bk z t sl p x1 x2 x3 x4 W h hM hbW (hs.2 1 x1 rfl) (hs.2 2 x2 rfl) (hs.2 3 x3 rfl) (hs.2 4 x4 rfl) hs.1 (by rw [← hp]; rfl) (by rw [← hp]; rfl) (by rw [← hp]; rfl) (by rw [← hp]; rfl) z1 z2 z3 z4 he (by have := hf.1; simp at this; omega) (hf.2 sl (by simp))).mono ?_
      rintro e w' ⟨hb, hk, ⟨rfl, a, hq, hm⟩ | ⟨rfl, hq⟩⟩
      · exact ⟨true, rfl, hb, hk, .inl ⟨rfl, (z, t ++ [(sl.1, sl.2 ++ [a])]), by rw [ep, if_pos h0, hq]; simp only [Option.map_some]; rw [addArc_last], hm⟩⟩
      · exact ⟨false, rfl, hb, hk, .inr ⟨rfl, by rw [ep, if_pos h0, hq]; rfl⟩⟩
  have d0 : W.cell? ⟨bk, 0, none⟩ = some (.string x0) := hs.2 0 x0 rfl
  have e1 : (x0.toList == [115, 116, 97, 114, 116]) = false := ne_toList (by rw [c1]; decide)
  have e2 : (x0.toList == [115, 116, 97, 116, 101]) = false := ne_toList (by rw [c1]; decide)
  have e3 : (x0.toList == [97, 114, 99]) = true := eq_toList c1
  clear h hs he c1 hp hp0 hpl ep hf
  go_enter Tryd.func24, Tryd.ntmps24
  go_wp2_with (first | (go_at_call 44; (with_reducible refine HA.out.mono ?_); rintro e w1 ⟨b, rfl, hq⟩; have HQ : Hid (AddAns base M (z, l) p W (.returned (.bool b)) w1) := hq; clear hq))
  exact bodyPost_ret (v := .bool b) (by simp [results, Tryd.results24, go_sem]) rfl HQ.out
theorem add_any (base M bk : Nat) (z : Int) (l : List St) (xs : List ByteArray) (W : World) (h : MacAt base M z l W) (hM : M < base) (hbW : base ≤ W.heap.size) (hs : Wds W bk xs) (hne : xs ≠ []) (hlen : xs.length ≤ 30000) (hz : ∀ x ∈ xs, x.size ≤ 20000) (he : Errs W) (hf : Few 100000 l) :
    Calls Tryd.prog 24 #[.pointer (some ⟨M, 0, none⟩), .slice (some ⟨bk, 0, none⟩) xs.length xs.length] W fun e W' => AddAns base M (z, l) (xs.map (·.data.toList)) W e W' := by
  obtain ⟨x0, r, rfl⟩ := List.exists_cons_of_ne_nil hne
  by_cases h1 : x0.data.toList = wStart ∧ r.length = 1
  · obtain ⟨x1, rfl⟩ := List.length_eq_one_iff.1 h1.2
    exact add_start base M bk z l x0 x1 W h hM hs he (hz x1 (by simp)) h1.1
  · by_cases h2 : x0.data.toList = wState ∧ r.length = 1
    · obtain ⟨x1, rfl⟩ := List.length_eq_one_iff.1 h2.2
      exact add_state base M bk z l x0 x1 W h hM hbW hs (hz x1 (by simp)) hf.1 h2.1
    · by_cases h3 : x0.data.toList = wArc ∧ r.length = 4
      · match r, h3.2 with
        | [x1, x2, x3, x4], _ => exact add_arc base M bk z l x0 x1 x2 x3 x4 W h hM hbW hs he (hz x1 (by simp)) (hz x2 (by simp)) (hz x3 (by simp)) (hz x4 (by simp)) hf h3.1
      · refine add_else base M bk z l x0 (x0 :: r).length _ W (hs.2 0 x0 rfl) (by simp) hlen (by simp) rfl ?_ ?_ ?_
        · rintro ⟨e1, e2⟩; exact h1 ⟨e1, by simpa using e2⟩
        · rintro ⟨e1, e2⟩; exact h2 ⟨e1, by simpa using e2⟩
        · rintro ⟨e1, e2⟩; exact h3 ⟨e1, by simpa using e2⟩
end Go.Proofs.YthaefajpdncoeaaDoor.Wt
