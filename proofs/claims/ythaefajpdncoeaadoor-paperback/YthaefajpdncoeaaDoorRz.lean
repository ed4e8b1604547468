/- A range over a function that yields what it has just laid into memory: the body may know that it lies there. -/
import Derived.Test.YthaefajpdncoeaaDoorRows
import Derived.RangeFuncNested
import Derived.RangeFuncBound
import Derived.RangeFuncCalls
import Derived.RangeFuncLeaves
namespace Go.Proofs.YthaefajpdncoeaaDoor.Wt
open Go.RowKit
variable {F : Fence} {n : Nat} {P : Program}
/-- The iterator's word: each element lies, as Lx says, when it is yielded. -/
def SeqLaid {α : Type} (F : Fence) (n : Nat) (P : Program) (g : Nat) (lb : Array Value) (encs : α → Array Value) (Lx : α → World → Prop) (n₀ : Nat) (S Sp : List α → Prop) (N : Nat) (w : World) : Prop :=
  ∀ (l : Nat) (J Jx : List α → World → Prop) (W : World), Below w.heap.size w W → AbidesFrom W.heap.size J → AbidesFrom W.heap.size Jx →
    (∀ pre x V, J pre V → Lx x V → pre.length < N → YieldAt F (n - 1) P l (encs x) V fun e V' =>
      (e = .returned (.bool true) ∧ J (pre ++ [x]) V' ∧ Below n₀ V V') ∨ (e = .returned (.bool false) ∧ Jx (pre ++ [x]) V')) →
    J [] W → CallsIn F n P g (#[.func (.yield l) #[] #[]] ++ lb) W fun e W' => (∃ v, e = .returned v) ∧ ((∃ xs, S xs ∧ J xs W') ∨ (∃ pre, Sp pre ∧ Jx pre W'))
/-- How a round may end: it goes on, or it returns. -/
def endsAt {α : Type} (B n₀ : Nat) (I Ix : List α → World → Prop) (xs : List α) (W : World) : Exit → Act → World → Prop
  | .normal, _, W' => KeepsFrom B W W' ∧ Below n₀ W W' ∧ I xs W'
  | .ret, _, W' => KeepsFrom B W W' ∧ Ix xs W'
  | _, _, _ => False
theorem wpIn_rangeFunc_laid {α : Type} {g : Operand} {ps : Array Tmp} {assign body : Code} {Q : Exit → Act → World → Prop} {a : Act} {w : World}
    (hro : F.round = none) (h1 : 1 ≤ n) {gf : Nat} {lb : Array Value} (hg : a.eval g = .func (.func gf) #[] lb) (hFg : F.fn gf) (eg : ∀ args w, (callFunc gf args).run P w = .ok (.enter gf args) w)
    {encs : α → Array Value} {Lx : α → World → Prop} {n₀ : Nat} {S Sp : List α → Prop} {N : Nat} {w0 : World} (hseq : SeqLaid F (n - 1) P gf lb encs Lx n₀ S Sp N w0)
    (hn₀ : n₀ ≤ w.heap.size) (hb0 : Below w0.heap.size w0 w) (hps : ∀ x, (encs x).size = ps.size)
    (I Ix : List α → World → Prop) (hI : OwnFrom w.heap.size I) (hIx : OwnFrom w.heap.size Ix) (hLx : OwnFrom w.heap.size Lx) (h0 : I [] w) (a₁ : α → Act)
    (hassign : ∀ (l : Nat) (x : α) (W : World) (K : Act → World → Prop), K (a₁ x) W →
      assign.wpIn (F.inRound l) (n - 1 - 1) P (Exit.then K (fun _ _ _ => False)) { tmps := (ps.zip (encs x)).foldl (fun t (p, v) => t.setIfInBounds p v) a.tmps, defers := [] } W)
    (hbody : ∀ (l : Nat) (pre : List α) (x : α) (W : World), I pre W → Lx x W → pre.length < N → body.wpIn (F.inRound l) (n - 1 - 1) P (endsAt w.heap.size n₀ I Ix (pre ++ [x]) W) (a₁ x) W)
    (hdone : ∀ (D : Nat) (xs : List α) (W : World), w.heap.size ≤ D → S xs → I xs W → W.heap[D]? = some (.deferred (some [])) → Q .normal { a with defers := { target := .collected D, args := #[] } :: a.defers } W)
    (hstop : ∀ (D : Nat) (pre : List α) (W : World), w.heap.size ≤ D → Sp pre → Ix pre W → W.heap[D]? = some (.deferred (some [])) → Code.ret.wpIn F n P Q { a with defers := { target := .collected D, args := #[] } :: a.defers } W) :
    (Code.rangeFunc g ps assign body).wpIn F n P Q a w := by
  refine wpIn_rangeFunc fun fn hfn => ?_
  rw [hro]
  obtain ⟨D, hD⟩ : ∃ D, w.heap.size = D := ⟨_, rfl⟩
  obtain ⟨rec, hrec⟩ : ∃ rec : LoopState → Option Code → Loop, rec = fun st pe => { state := st, pending := pe, fn, tmps := a.tmps, params := ps, assign, body, defers := D } := ⟨_, rfl⟩
  have hpar : ∀ st pe, (rec st pe).params = ps := fun st pe => by rw [hrec]
  have hst : ∀ st pe, (rec st pe).state = st := fun st pe => by rw [hrec]
  generalize hW : (w.alloc (.deferred (some []))).alloc (.loop (rec .ready none)) = W1
  have hrecAt : W1.heap[D + 1]? = some (.loop (rec .ready none)) := by
    have h := World.alloc_heap_new (w.alloc (.deferred (some []))) (.loop (rec .ready none))
    rw [World.size_alloc, hD, hW] at h
    exact h
  have hdefAt : W1.heap[D]? = some (.deferred (some [])) := by
    rw [← hW, ← hD]
    exact (Below.heap_alloc _ _ _ (by simp)).trans (World.alloc_heap_new w _)
  have hsz : W1.heap.size = D + 1 + 1 := by rw [← hW, World.size_alloc, World.size_alloc, hD]
  have hbW : Below w0.heap.size w0 W1 := by
    rw [← hW]
    exact hb0.trans ((((Below.refl _ w).alloc (Nat.le_refl _) _).alloc (by simp) _).mono hb0.size)
  refine ⟨D + 1, [{ target := .collected D, args := #[] }], W1, { target := .fn (.func gf) lb, args := #[.func (.yield (D + 1)) #[] #[]] }, W1, gf, #[.func (.yield (D + 1)) #[] #[]] ++ lb, W1, ?_, ?_, ?_, ?_, fun _ => h1, ?_⟩
  · rw [← hW, hrec, ← hD]; exact run_enterLoop_outer _ _ _ _ _
  · simp only [resolve, hg]; simp [go_sem]
  · intro f' hf'
    simp [Target.leads] at hf'
    subst hf'
    exact hFg
  · simp [invoke, go_sem, eg]
  -- what lies beside the caller's own: the loop's record, the deferred calls' block
  obtain ⟨Bk, hBk⟩ : ∃ Bk : Loop → World → Prop, Bk = fun r W => W.heap[D + 1]? = some (.loop r) ∧ W.heap[D]? = some (.deferred (some [])) := ⟨_, rfl⟩
  have bkKeep : ∀ {r : Loop} {A V : World} {row : Option Nat}, Bk r A → A.grownBy V row → (∀ k, row = some k → W1.heap.size ≤ k ∧ ∃ o : Obj, A.heap[k]? = some o ∧ o.isWalk = true) → Bk r V := fun {r A V row} h hgr hr => by
    rw [hBk] at h ⊢
    exact ⟨(grownBy_keeps hgr (fun k e => (hr k e).2) h.1 rfl).trans h.1, (grownBy_keeps hgr (fun k e => (hr k e).2) h.2 rfl).trans h.2⟩
  have weak : ∀ {A : World} {row : Option Nat}, (∀ k, row = some k → W1.heap.size ≤ k ∧ ∃ o : Obj, A.heap[k]? = some o ∧ o.isWalk = true) → ∀ k, row = some k → w.heap.size ≤ k ∧ ∃ o : Obj, A.heap[k]? = some o ∧ o.isCells = false := fun hr k e => by
    obtain ⟨h, o, ho, hw⟩ := hr k e
    exact ⟨by omega, o, ho, Obj.not_cells_of_walk hw⟩
  have turn : ∀ {W : World} {r : Loop} (r' : Loop), Bk r W → Bk r' (W.putObj (D + 1) (.loop r')) ∧ Below n₀ W (W.putObj (D + 1) (.loop r')) := fun {W r} r' h => by
    rw [hBk] at h ⊢
    exact ⟨⟨World.putObj_heap_same (Array.getElem?_eq_some_iff.1 h.1).1, (World.putObj_heap_other (by omega)).trans h.2⟩, belowK_b hn₀ W _ _ _ (by omega) h.1 rfl rfl⟩
  have putI : ∀ {β : Type} {X : β → World → Prop} {s : β} {W : World} {r : Loop} (r' : Loop), OwnFrom w.heap.size X → X s W → Bk r W → X s (W.putObj (D + 1) (.loop r')) := fun {β X s W r} r' hX hs h => by
    rw [hBk] at h
    exact hX.putObj _ hs (by omega) h.1 rfl
  refine (hseq (D + 1) (fun pre W => I pre W ∧ Bk (rec .ready none) W) (fun pre W => Ix pre W ∧ Bk (rec .done (some .ret)) W) W1 hbW
    (fun s A V row hs hgr hr => ⟨hI s A V row hs.1 hgr (weak hr), bkKeep hs.2 hgr hr⟩) (fun s A V row hs hgr hr => ⟨hIx s A V row hs.1 hgr (weak hr), bkKeep hs.2 hgr hr⟩)
    ?_ ⟨by rw [← hW]; exact hI.alloc _ (hI.alloc _ h0), by rw [hBk]; exact ⟨hrecAt, hdefAt⟩⟩).mono ?_
  · rintro pre x W ⟨hi, hk⟩ hl hlen
    have hk' := hk
    rw [hBk] at hk'
    have hy := run_yield (P := P) (args := encs x) hk'.1 (by rw [hpar]; exact hps x)
    rw [hrec] at hy
    refine ⟨fn, _, assign, body, hy, roundIn_of_wpIn hfn (hassign _ x W _ ⟨_, run_beginRound hk'.1 (hst _ _), ?_⟩)⟩
    obtain ⟨hk2, hb2⟩ := turn { rec .ready none with state := .busy } hk
    refine wpIn_mono (hbody _ pre x _ (putI _ hI hi hk) (putI _ hLx hl hk) hlen) ?_
    have shut : ∀ (j : Option Code) (V : World), KeepsFrom w.heap.size (W.putObj (D + 1) (.loop { rec .ready none with state := .busy })) V → Bk { rec .ready none with state := .busy } V ∧
        (Instr.endRound (D + 1) j).run P V = .ok (.bool j.isNone) (V.putObj (D + 1) (.loop (rec (if j.isNone then .ready else .done) j))) := fun j V hV => by
      have hb : Bk { rec .ready none with state := .busy } V := by
        rw [hBk] at hk2 ⊢
        exact ⟨hV.same _ _ (by omega) hk2.1 rfl, hV.same _ _ (by omega) hk2.2 rfl⟩
      refine ⟨hb, ?_⟩
      rw [hBk] at hb
      have := run_endRound (P := P) j hb.1
      rw [hrec] at this ⊢
      exact this
    rintro e a3 V hp
    cases e with
    | normal =>
      obtain ⟨hkf, hbl, hi3⟩ := hp
      obtain ⟨hb3, hr⟩ := shut none V hkf
      obtain ⟨hk4, hb4⟩ := turn (rec .ready none) hb3
      exact ⟨_, _, hr, .inl ⟨rfl, ⟨putI _ hI hi3 hb3, hk4⟩, (hb2.trans hbl).trans hb4⟩⟩
    | ret =>
      obtain ⟨hkf, hi3⟩ := hp
      obtain ⟨hb3, hr⟩ := shut (some .ret) V hkf
      exact ⟨_, _, hr, .inr ⟨rfl, putI _ hIx hi3 hb3, (turn _ hb3).1⟩⟩
    | exit id => exact hp.elim
    | goto t => exact hp.elim
    | panic ch => exact hp.elim
    | outgrown => exact hp.elim
  · rintro e V ⟨⟨v, rfl⟩, (⟨xs, hS, hi, hk⟩ | ⟨pre, hSp, hi, hk⟩)⟩
    · have hk' := hk
      rw [hBk] at hk'
      refine ⟨none, _, by have := run_endLoop (P := P) hk'.1 (by rw [hst]; simp); rw [hrec] at this; exact this, ?_⟩
      exact hdone D xs _ (by omega) hS (putI _ hI hi hk) ((World.putObj_heap_other (by omega)).trans hk'.2)
    · have hk' := hk
      rw [hBk] at hk'
      refine ⟨some .ret, _, by have := run_endLoop (P := P) hk'.1 (by rw [hst]; simp); rw [hrec] at this; exact this, ?_⟩
      exact hstop D pre _ (by omega) hSp (putI _ hIx hi hk) ((World.putObj_heap_other (by omega)).trans hk'.2)
end Go.Proofs.YthaefajpdncoeaaDoor.Wt
