/- A block of cells as one fact of the world, and what a store, a new block, a draw leave of it. -/
import Derived.Test.YtfpibdaedfilaaaRows
import Derived.WalkKit
import Derived.ProofKit
import Derived.Below
import Derived.WalkSmall
import Derived.Maps.OwnSet
import Derived.Test.YtfpibdaedfilaaaEaa
import Derived.Laws.MakeOwn
namespace Go.Proofs.Ytfpibdaedfilaaa.Wt
open Go.ChangeShapes Go.WideShapes Go.ChangeAt Go.RowKit
set_option linter.unusedVariables false
def Blk (w : World) (b : Nat) (cs : Array Value) (t : TypeId) : Prop := w.heap[b]? = some (.cells cs t (0, 0))
theorem Blk.lt {w : World} {b : Nat} {cs : Array Value} {t : TypeId} (h : Blk w b cs t) : b < w.heap.size := lt_of_block h
theorem Blk.cell {w : World} {b : Nat} {cs : Array Value} {t : TypeId} (h : Blk w b cs t) (i : Nat) {v : Value} (hv : cs[i]? = some v) : w.cell? ⟨b, i, none⟩ = some v := by
 unfold Blk at h; simp [World.cell?, h, hv]
theorem Blk.fz {w : World} {b : Nat} {cs : Array Value} {t : TypeId} (h : Blk w b cs t) (i : Nat) : w.frozen? ⟨b, i, none⟩ = false := by
 unfold Blk at h; simp [World.frozen?, h]
theorem Blk.set {w : World} {b : Nat} {cs : Array Value} {t : TypeId} (h : Blk w b cs t) (i : Nat) (v : Value) : Blk (w.setCell ⟨b, i, none⟩ v) b (cs.setIfInBounds i v) t := by
 unfold Blk at h ⊢
 show (w.heap.modify b _)[b]? = _
 rw [Array.getElem?_modify, if_pos rfl, h]
 rfl
theorem Blk.keep {w w' : World} {b : Nat} {cs : Array Value} {t : TypeId} (h : Blk w b cs t) (e : w'.heap[b]? = w.heap[b]?) : Blk w' b cs t := e.trans h
theorem Blk.setO {w : World} {b : Nat} {cs : Array Value} {t : TypeId} (h : Blk w b cs t) (a : Addr) (v : Value) (hn : b ≠ a.block) : Blk (w.setCell a v) b cs t := h.keep (Below.heap_setCell w a v b hn)
theorem Blk.alloc {w : World} {b : Nat} {cs : Array Value} {t : TypeId} (h : Blk w b cs t) (o : Obj) : Blk (w.alloc o) b cs t := h.keep (Below.heap_alloc w o b h.lt)
theorem Blk.drew {w : World} {b : Nat} {cs : Array Value} {t : TypeId} (h : Blk w b cs t) : Blk w.drew b cs t := h
theorem Blk.drewN {w : World} {b : Nat} {cs : Array Value} {t : TypeId} (h : Blk w b cs t) (n : Nat) : Blk (w.drewN n) b cs t := h
theorem Blk.below {w w' : World} {b B : Nat} {cs : Array Value} {t : TypeId} (h : Blk w b cs t) (hb : Below B w w') (hB : b < B) : Blk w' b cs t := h.keep (hb.block b hB)
theorem Blk.grown {w w' : World} {b : Nat} {cs : Array Value} {t : TypeId} {row : Option Nat} (h : Blk w b cs t) (hg : w.grownBy w' row) (hne : some b ≠ row) : Blk w' b cs t := h.keep (hg.block b h.lt hne)
theorem Blk.made (w : World) (cs : Array Value) (t : TypeId) : Blk (w.alloc (.cells cs t)) w.heap.size cs t := by
 show (w.heap.push _)[w.heap.size]? = _
 simp
theorem boxed {w w1 : World} {cs : Array Value} {t : TypeId} {n : Nat} (hb : Below n (w.alloc (.cells cs t)) w1) (hn : n = w.heap.size + 1) : w.heap.size + 1 ≤ w1.heap.size ∧ Blk w1 w.heap.size cs t ∧ Below w.heap.size w w1 := by
 subst hn
 have h := hb.size
 simp only [World.size_alloc] at h
 exact ⟨h, (Blk.made w cs t).below hb (by omega), ((Below.refl _ _).alloc (Nat.le_refl _) _).trans (hb.mono (by omega))⟩
end Go.Proofs.Ytfpibdaedfilaaa.Wt
namespace Go.Proofs.Ytfpibdaedfilaaa.Wt
open Go.ChangeShapes Go.WideShapes Go.ChangeAt Go.RowKit
open Go.Proofs.Ytfpibdaedfilaaa.Pl
set_option linter.unusedVariables false
set_option linter.unusedSimpArgs false
def OwnSts (w : World) (base : Nat) (v : Value) (l : List St) : Prop :=
 ∃ vs : List (Int × Value), w.ownsRow base 56 2 v vs.length (vs.flatMap encS) ∧ vs.length = l.length ∧ ∀ j, j < l.length → (el vs j).1 = (el l j).1 ∧ w.ownsRow base 58 4 (el vs j).2 (el l j).2.length ((el l j).2.flatMap encA)
theorem OwnSts.nil (w : World) (base : Nat) : OwnSts w base (.slice none 0 0) [] := ⟨[], World.ownsRow_nil _ _ _ _, rfl, by simp⟩
theorem OwnSts.sts {w : World} {base : Nat} {v : Value} {l : List St} (h : OwnSts w base v l) : Sts w v l := by
 obtain ⟨vs, h1, h2, h3⟩ := h
 exact ⟨vs, Row.ofOwn encS_len h1 rfl, h2, fun j hj => ⟨(h3 j hj).1, Row.ofOwn encA_len (h3 j hj).2 rfl⟩⟩
theorem OwnSts.kept {w w' : World} {base : Nat} {v : Value} {l : List St} (h : OwnSts w base v l) (hg : w.grownBy w' none) : OwnSts w' base v l := by
 obtain ⟨vs, h1, h2, h3⟩ := h
 refine ⟨vs, h1.kept hg ?_, h2, fun j hj => ⟨(h3 j hj).1, (h3 j hj).2.kept hg ?_⟩⟩
 ·rcases v.ownBlock with _ | _ <;> simp
 ·rcases (el vs j).2.ownBlock with _ | _ <;> simp
theorem OwnSts.setCell {w : World} {base : Nat} {v : Value} {l : List St} (h : OwnSts w base v l) {a : Addr} (ha : a.block < base) (u : Value) : OwnSts (w.setCell a u) base v l := by
 obtain ⟨vs, h1, h2, h3⟩ := h
 exact ⟨vs, ownsRow_setCell_below h1 ha u, h2, fun j hj => ⟨(h3 j hj).1, ownsRow_setCell_below (h3 j hj).2 ha u⟩⟩
theorem own_sl {w : World} {base : Nat} {e : TypeId} {s : Nat} {v : Value} {n : Nat} {xs : List Value} (h : w.ownsRow base e s v n xs) : ∃ a c, v = .slice a n c := by
 rcases h.2 with ⟨hv, rfl⟩ | ⟨g, cap, cur, hv, _⟩
 ·exact ⟨_, _, hv⟩
 ·exact ⟨_, _, hv⟩
theorem own_one {w : World} {base : Nat} {e : TypeId} {s : Nat} {v : Value} {n : Nat} {xs : List Value} (h : w.ownsRow base e s v n xs) : v.oneCell' = true := by
 rcases h.2 with ⟨hv, _⟩ | ⟨g, cap, cur, hv, _⟩ <;> rw [hv] <;> rfl
theorem run_push {W w1 : World} (s : St) (l : List St) (va vo : Value) (base : Nat)
  (hW : W.heap = w1.heap.push (.cells #[.int .i64 s.1, va] 56)) (hos : W.os = w1.os) (htp : W.tape = w1.tape) (hou : W.output = w1.output)
  (hown : OwnSts w1 base vo l) (hva : w1.ownsRow base 58 4 va s.2.length (s.2.flatMap encA)) (hl : (l.length + 1) * 32 ≤ 140737488355328) (hbase : base ≤ w1.heap.size) :
  ∃ v3 w3, (Builtin.append_ #[25, 25] 25 #[vo, .slice (some ⟨w1.heap.size, 0, none⟩) 1 1]).run Try.prog W = .ok v3 w3 ∧ OwnSts w3 base v3 (l ++ [s]) ∧ Below base w1 w3 := by
 obtain ⟨i1, hi1, hy0, hy1, hy2⟩ := info_parts infoState
 obtain ⟨vs, q1, q2, q3⟩ := hown
 have e1 : ∀ k, k < w1.heap.size → W.heap[k]? = w1.heap[k]? := fun k hk => by rw [hW, Array.getElem?_push_lt hk, Array.getElem?_eq_getElem hk]
 have e0 : W.heap[w1.heap.size]? = some (.cells #[.int .i64 s.1, va] 56 (0, 0)) := by rw [hW]; simp
 have es : W.heap.size = w1.heap.size + 1 := by rw [hW]; simp
 have hg : w1.grownBy W none := ⟨hos, htp, hou, by omega, fun k hk _ => e1 k hk⟩
 have kn : ∀ v : Value, v.ownBlock = none ∨ v.ownBlock ≠ none := fun v => by rcases v.ownBlock with _ | _ <;> simp
 have hvo := q1.kept hg (kn _)
 obtain ⟨v3, w3, hr, h1, h2, _⟩ := run_append_own (P := Try.prog) W base 25 25 56 i1 _ 2 32 Try.underlying25 hi1 hy0 hy1 hy2 rfl (by omega) vo vs.length (vs.flatMap encS) hvo ⟨w1.heap.size, 0, none⟩ 1 1 [.int .i64 s.1, va] rfl (World.news_of_block (cs := #[.int .i64 s.1, va]) e0) (by
  intro u hu
  simp at hu
  rcases hu with rfl | rfl
  ·rfl
  ·exact own_one hva) (by rw [q2]; unfold maxLen; omega) (by rw [q2]; exact hl) (by omega)
 refine ⟨v3, w3, hr, ⟨vs ++ [(s.1, va)], by simpa [encS] using h1, by simp [q2], ?_⟩, ?_⟩
 ·intro j hj
  have hj' : j < l.length ∨ j = l.length := by simp at hj; omega
  rcases hj' with hj' | rfl
  ·rw [el_left (by omega), el_left hj']
   have := (q3 j hj').2.kept hg (kn _)
   exact ⟨(q3 j hj').1, this.kept h2 (own_apart this hvo (by decide))⟩
  ·rw [el_last, ← q2, el_last]
   have := hva.kept hg (kn _)
   exact ⟨rfl, this.kept h2 (own_apart this hvo (by decide))⟩
 ·exact ((Below.refl _ _).grown hg hbase (by simp)).grown h2 (by omega) (own_geK hvo)
end Go.Proofs.Ytfpibdaedfilaaa.Wt
namespace Go.Proofs.Ytfpibdaedfilaaa.Wt
open Go.ChangeShapes Go.WideShapes Go.ChangeAt Go.RowKit
open Go.Proofs.Ytfpibdaedfilaaa.Pl
set_option linter.unusedVariables false
theorem grownBelow {w w' : World} (hb : Below w.heap.size w w') : w.grownBy w' none := ⟨hb.os, hb.tape, hb.output, hb.size, fun k hk _ => hb.block k hk⟩
theorem ownBelow {w w' : World} {base : Nat} {e : TypeId} {s : Nat} {v : Value} {n : Nat} {xs : List Value} (h : w.ownsRow base e s v n xs) (hb : Below w.heap.size w w') : w'.ownsRow base e s v n xs :=
 h.kept (grownBelow hb) (by rcases v.ownBlock with _ | _ <;> simp)
theorem oneRow {α : Type} [Inhabited α] {k : Nat} {enc : α → List Value} (w : World) (p : α) (hk : (enc p).length = k) (t : TypeId) : Row k enc (w.alloc (.cells (enc p).toArray t)) (.slice (some ⟨w.heap.size, 0, none⟩) 1 1) [p] := by
 refine .inr ⟨⟨w.heap.size, 0, none⟩, 1, rfl, fun j hj i u hu => ?_⟩
 have hj0 : j = 0 := by simp at hj; exact hj
 subst hj0
 rw [Addr.add_lit]
 refine (Blk.made w _ _).cell _ ?_
 rw [Nat.zero_mul, Nat.zero_add, Nat.zero_add]
 rw [el_zero] at hu
 simpa using hu
theorem snocFacts {α : Type} {k : Nat} {enc : α → List Value} {w w' : World} {base : Nat} {e : TypeId} {vo v : Value} {l : List α} {p : α} {ob : Obj} (ho : w.ownsRow base e k vo l.length (l.flatMap enc)) (hs : base ≤ w.heap.size) (h : w'.ownsRow base e k v (l.length + [p].length) (l.flatMap enc ++ [p].flatMap enc)) (hg : (w.alloc ob).grownBy w' vo.ownBlock) :
  Hid (w'.ownsRow base e k v (l ++ [p]).length ((l ++ [p]).flatMap enc)) ∧ Hid (Below base w w') ∧ Hid (base ≤ w'.heap.size) := by
 have hb : Below base w w' := ((Below.refl _ _).alloc hs ob).grown hg (by simp; omega) (own_geK ho)
 exact ⟨by show World.ownsRow _ _ _ _ _ _ _; rw [List.length_append, List.flatMap_append]; exact h, hb, Nat.le_trans hs hb.size⟩
theorem wpListAppendRun {P : Program} {ops : Array Oper} {Q : Exit → Act → World → Prop} {rest : List Oper} {o : Oper} {a : Act} {w w' : World} {v1 v2 v3 : Value} (hgd : o.guard = none) (x y : Operand) (t : TypeId) (ho : o.op = .call { callee := .builtin .append, args := #[x, y], argTypes := #[t, t] }) (hx : a.eval x = v1) (hy : a.eval y = v2)
  (hr : (Builtin.append_ #[t, t] o.type #[v1, v2]).run P w = .ok v3 w') (h : wpList P ops Q rest (a.put o.dst v3) w') : wpList P ops Q (o :: rest) a w :=
 wpList_plain hgd fun _ hK => wp_append_run x y t ho hx hy hr (hK _ _ h)
theorem boxedTwo {w w1 : World} {c0 c1 : Array Value} {t0 t1 : TypeId} {n : Nat} (hb : Below n ((w.alloc (.cells c0 t0)).alloc (.cells c1 t1)) w1) (hn : n = w.heap.size + 2) : w.heap.size + 2 ≤ w1.heap.size ∧ Blk w1 w.heap.size c0 t0 ∧ Blk w1 (w.heap.size + 1) c1 t1 ∧ Below w.heap.size w w1 := by
 subst hn
 have h := hb.size
 simp only [World.size_alloc] at h
 have k1 := Blk.made (w.alloc (.cells c0 t0)) c1 t1
 simp only [World.size_alloc] at k1
 exact ⟨h, ((Blk.made w c0 t0).alloc _).below hb (by omega), k1.below hb (by omega), (((Below.refl _ _).alloc (Nat.le_refl _) _).alloc (by simp) _).trans (hb.mono (by omega))⟩
def Near (w : World) (r : Option Nat) (v : Value) : Prop := v.ownBlock = r ∨ ∃ b, v.ownBlock = some b ∧ w.heap.size ≤ b
theorem gTrans {a b c : World} {r : Option Nat} (h : a.grownBy b r) (k : b.grownBy c r) : a.grownBy c r := ⟨k.os.trans h.os, k.tape.trans h.tape, k.output.trans h.output, Nat.le_trans h.size k.size, fun i hi hne => (k.block i (Nat.lt_of_lt_of_le hi h.size) hne).trans (h.block i hi hne)⟩
theorem gNew {a b : World} {r : Option Nat} (hb : Below a.heap.size a b) : a.grownBy b r := ⟨hb.os, hb.tape, hb.output, hb.size, fun k hk _ => hb.block k hk⟩
theorem gSet (w : World) (b o : Nat) (v : Value) : w.grownBy (w.setCell ⟨b, o, none⟩ v) (some b) := ⟨rfl, rfl, rfl, by simp [World.setCell], fun k _ hne => Below.heap_setCell w _ _ k (by intro e; exact hne (by rw [e]))⟩
theorem gBelow {a b : World} {r : Option Nat} {base : Nat} (h : a.grownBy b r) (hr : ∀ k, r = some k → base ≤ k) (hs : base ≤ a.heap.size) : Below base a b := (Below.refl _ _).grown h hs hr
theorem run_append_spot {α : Type} [Inhabited α] {k : Nat} {enc : α → List Value} {P : Program} {w : World} (hk : ∀ x, (enc x).length = k) (hk0 : 0 < k) (h1c : ∀ x, ∀ u ∈ enc x, u.oneCell' = true) (t ty : TypeId)
  (base : Nat) (e : TypeId) (i : TypeInfo) (z : Value) (bytes : Nat) (ht : P.underlying t = some (.slice e)) (hi : P.info? e = some i) (hz : i.zero = some z)
  (hsize : i.size = k) (hby : i.bytes = bytes) (hzs : z.cells.size = k)
  (v : Value) (n : Nat) (ms : List Value) (hown : w.ownsRow base e k v n ms) (vx : Value) (ns : List α) (hX : Row k enc w vx ns)
  (h63 : n + ns.length ≤ maxLen) (hbytes : (n + ns.length) * bytes ≤ 140737488355328) (hbase : base ≤ w.heap.size) :
  ∃ v' w', (Builtin.append_ #[t, t] ty #[v, vx]).run P w = .ok v' w' ∧ w'.ownsRow base e k v' (n + ns.length) (ms ++ ns.flatMap enc) ∧ w.grownBy w' v.ownBlock ∧ Near w v.ownBlock v' := by
 obtain ⟨v', w', hr, h2, h3⟩ := run_append_rows hk hk0 h1c t ty base e i z bytes ht hi hz hsize hby hzs v n ms hown vx ns hX h63 hbytes hbase
 refine ⟨v', w', hr, h2, h3, ?_⟩
 have hX0 := hX
 rcases hX with ⟨hv, hzs0⟩ | ⟨ad, cap, hv, hc⟩
 ·subst hv
  have h := run_append_owned_none (P := P) (w := w) base t ty e i k ht hi v n ms hown
  rw [hr] at h
  simp only [Result.ok.injEq] at h
  rw [h.1]
  exact .inl rfl
 ·have hown0 := hown
  rcases hown.2 with ⟨rfl, rfl⟩ | ⟨g, cap', cur, rfl, hbg, hg, hnc, hcm, hcs, htake⟩
  ·have hms : ms = [] := List.eq_nil_of_length_eq_zero (by simpa using hown.1)
   subst hms
   obtain ⟨v2, w2, hr2, h22, _⟩ := run_append_rows (w := w) hk hk0 h1c t ty w.heap.size e i z bytes ht hi hz hsize hby hzs (.slice none 0 0) 0 [] (World.ownsRow_nil _ _ _ _) vx ns hX0 h63 hbytes (Nat.le_refl _)
   rw [hr] at hr2
   simp only [Result.ok.injEq] at hr2
   rw [hr2.1]
   rcases h22.2 with ⟨rfl, _⟩ | ⟨g, c, cu, rfl, hb, _⟩
   ·exact .inl rfl
   ·exact .inr ⟨g, rfl, hb⟩
  ·subst hv
   subst hsize
   by_cases hroom : n + ns.length ≤ cap'
   ·have hl : (ns.flatMap enc).length = ns.length * i.size := flat_length hk ns
    have h := run_append_room (P := P) w t ty e i ht hi g n cap' cur hg ad ns.length cap (ns.flatMap enc) hl (row_news hk hk0 hc) (by
     intro u hu
     simp only [List.mem_flatMap] at hu
     obtain ⟨y, _, hy⟩ := hu
     exact h1c y u hy) hroom (by rw [hl, hcs, ← Nat.add_mul]; exact Nat.mul_le_mul_right _ hroom)
    rw [hr] at h
    simp only [Result.ok.injEq] at h
    rw [h.1]
    exact .inl rfl
   ·have h := run_append_grow (P := P) w t ty e i z ht hi hz ⟨g, 0, none⟩ n cap' ms hown.1 (hown.cells (g := g) rfl) ad ns.length cap (ns.flatMap enc) (flat_length hk ns) (row_news hk hk0 hc) (by omega) (by unfold maxLen at h63; omega) (by rw [hby]; exact growslice_fits (by omega) hbytes)
    rw [hr] at h
    simp only [Result.ok.injEq] at h
    rw [h.1]
    exact .inr ⟨_, rfl, Nat.le_refl _⟩
theorem wrapI {n : Int} (h0 : -9223372036854775808 ≤ n) (h1 : n ≤ 9223372036854775807) : IntKind.i64.wrap n = n := by
 have h64 : IntKind.i64.wrap n = if n % 18446744073709551616 ≥ 9223372036854775808 then n % 18446744073709551616 - 18446744073709551616 else n % 18446744073709551616 := by
  simp [IntKind.wrap, IntKind.bits, IntKind.signed]
 rw [h64]
 split <;> omega
theorem own_ne {w : World} {base : Nat} {e t : TypeId} {s : Nat} {v : Value} {n : Nat} {xs : List Value} (h : w.ownsRow base e s v n xs) {b : Nat} {cs : Array Value} (hb : Blk w b cs t) (hne : e ≠ t) : some b ≠ v.ownBlock := by
 rcases h.2 with ⟨rfl, _⟩ | ⟨g, cap', cur, rfl, hbg, hg, _⟩
 ·simp [Value.ownBlock]
 ·simp only [Value.ownBlock]
  intro e2
  simp at e2
  subst e2
  unfold Blk at hb
  rw [hg] at hb
  simp at hb
  exact hne hb.2
end Go.Proofs.Ytfpibdaedfilaaa.Wt
namespace Go.Proofs.Ytfpibdaedfilaaa.Wt
open Go.ChangeShapes Go.WideShapes Go.ChangeAt Go.RowKit
open Go.Proofs.Ytfpibdaedfilaaa.Pl
set_option linter.unusedVariables false
set_option linter.unusedSimpArgs false
def encI1 (x : Int) : List Value := [.int .i64 x]
theorem encI1_len (x : Int) : (encI1 x).length = 1 := rfl
theorem encI1_one (x : Int) : ∀ u ∈ encI1 x, u.oneCell' = true := by
 intro u hu
 simp [encI1] at hu
 subst hu; rfl
def Nums (w : World) (v : Value) (ks : List Int) : Prop := Row 1 encI1 w v ks
theorem Nums.later {w w' : World} {v : Value} {ks : List Int} (h : Nums w v ks) {B : Nat} (hb : Below B w w') (hB : w.heap.size ≤ B) : Nums w' v ks := Row.later h hb hB
theorem Nums.get {w : World} {v : Value} {bs : List Int} (h : Nums w v bs) : ∃ a cap, v = .slice a bs.length cap ∧ ∀ j, j < bs.length → ∃ b off, a = some ⟨b, off, none⟩ ∧ b < w.heap.size ∧ w.cell? ⟨b, off + j, none⟩ = some (.int .i64 (el bs j)) := by
 by_cases hz : 0 < bs.length
 ·obtain ⟨b, off, cap, hv, hb, hc⟩ := Row.plain h (fun x => by simp [encI1]) hz
  refine ⟨_, cap, hv, fun j hj => ⟨b, off, rfl, hb, ?_⟩⟩
  have := hc j hj 0 _ rfl
  rwa [Nat.mul_one, Nat.add_zero] at this
 ·obtain ⟨a, cap, hv⟩ := Row.sl h
  exact ⟨a, cap, hv, fun j hj => by omega⟩
theorem infoIntU : (Try.prog.info? 3).map (fun i => (i.zero, i.size, i.bytes)) = some (some (.int .i64 0), 1, 8) := by kernel_rfl
theorem made_nums (n : Nat) : madeCells (Value.cells (.int .i64 0)) (n * 1) = ((List.replicate n (0 : Int)).map (Value.int .i64)).toArray := by
 have hz : Value.cells (.int .i64 0) = #[.int .i64 0] := rfl
 apply Array.ext_getElem?
 intro t
 simp only [madeCells, hz, Array.getElem?_map, List.map_replicate]
 by_cases ht : t < n
 ·simp [ht, Nat.mod_one]
 ·simp [ht]
theorem run_nums (n : Nat) (hn : n ≤ 1000) (W : World) : (Instr.makeSlice 34 (.int .i64 (n : Int)) (.int .i64 (n : Int))).run Try.prog W = .ok (.slice (some ⟨W.heap.size, 0, none⟩) n n) (W.alloc (.cells ((List.replicate n (0 : Int)).map (Value.int .i64)).toArray 3)) := by
 obtain ⟨i1, hi1, hy0, hy1, hy2⟩ := info_parts infoIntU
 have h := run_make (P := Try.prog) W 34 3 i1 _ Try.underlying34 hi1 hy0 .i64 .i64 n n (by omega) (by omega) (by rw [hy2]; omega) (by omega)
 rw [hy1, Int.toNat_natCast, made_nums] at h
 exact h
theorem nums_block {w : World} {g cap : Nat} {ws : List Int} {t : TypeId} (h : Blk w g (ws.map (Value.int .i64)).toArray t) : Nums w (.slice (some ⟨g, 0, none⟩) ws.length cap) ws := by
  refine .inr ⟨⟨g, 0, none⟩, cap, rfl, fun j hj i u hu => ?_⟩
  cases i with
  | zero =>
    rw [Addr.add_lit, Nat.zero_add, Nat.mul_one, Nat.add_zero]
    refine h.cell _ ?_
    simp [encI1] at hu
    subst hu
    simp [hj, el]
  | succ i => simp [encI1] at hu
theorem num_cell {w : World} {g : Nat} {ws : List Int} {t : TypeId} (h : Blk w g (ws.map (Value.int .i64)).toArray t) {j : Nat} (hj : j < ws.length) : w.cell? ⟨g, j, none⟩ = some (.int .i64 (el ws j)) := by
 refine h.cell _ ?_
 simp [hj, el]
theorem set_num {ws : List Int} {q : Nat} {x : Int} : (ws.map (Value.int .i64)).toArray.setIfInBounds q (.int .i64 x) = ((ws.set q x).map (Value.int .i64)).toArray := by simp [List.map_set]
theorem el_setN {l : List Int} {q j : Nat} (hq : q < l.length) (x : Int) : el (l.set q x) j = if j = q then x else el l j := by
 by_cases h : j = q
 ·subst h; rw [if_pos rfl, el_get (by simpa using hq)]; simp
 ·rw [if_neg h]; simp [el, List.getElem?_set_ne (Ne.symm h)]
end Go.Proofs.Ytfpibdaedfilaaa.Wt
namespace Go.Proofs.Ytfpibdaedfilaaa.Pl
set_option linter.unusedVariables false
set_option linter.unusedSimpArgs false
theorem arcN_takeR (l : List St) (k : Nat) : arcN (l.take k) ≤ arcN l := by
 conv => rhs; rw [← List.take_append_drop k l, arcN_append]
 omega
theorem small_ok {m : Mc} (h1 : m.2.length ≤ 100000) (h2 : arcN m.2 ≤ 100000) : okM m := ⟨by omega, fun j hj => by
 have h3 := arcN_take hj
 have h4 := arcN_takeR m.2 (j + 1)
 omega⟩
theorem right_parts {m : Mc} (h : faultM m = 0) : (-1 ≤ m.1 ∧ m.1 ≤ (m.2.length : Int) - 1) ∧ ∀ s ∈ m.2, stB m.2.length s = true := by
 have h1 := (faultM_zero h).2
 simp only [rangeB, Bool.and_eq_true, inB, decide_eq_true_eq, List.all_eq_true] at h1
 exact h1
theorem stB_fin {n : Nat} {s : St} (h : stB n s = true) : finB s.1 = true := by
 simp only [stB, Bool.and_eq_true] at h
 exact h.1
end Go.Proofs.Ytfpibdaedfilaaa.Pl
namespace Go.Proofs.Ytfpibdaedfilaaa.Wt
open Go.ChangeShapes Go.WideShapes Go.ChangeAt Go.RowKit
open Go.Proofs.Ytfpibdaedfilaaa.Pl
set_option linter.unusedVariables false
set_option linter.unusedSimpArgs false
theorem hidP {p : Prop} (h : p) : Hid p := h
theorem arcs_at {w : World} {a : Option Addr} {n c : Nat} {ar : List Ar} (h : Arcs w (.slice a n c) ar) {j : Nat} (hj : j < ar.length) :
  ∃ b off, a = some ⟨b, off, none⟩ ∧ b < w.heap.size ∧ w.cell? ⟨b, off + j * 4, none⟩ = some (.int .i64 (el ar j).1) ∧ w.cell? ⟨b, off + j * 4 + 1, none⟩ = some (.int .i64 (el ar j).2.1) ∧ w.cell? ⟨b, off + j * 4 + 2, none⟩ = some (.int .i64 (el ar j).2.2.1) ∧ w.cell? ⟨b, off + j * 4 + 3, none⟩ = some (.int .i64 (el ar j).2.2.2) := by
 obtain ⟨b, off, cap', hv, hb, hc⟩ := Row.plain h (fun x => by simp [encA]) (by omega)
 injection hv with h1 _ _
 exact ⟨b, off, h1, hb, hc j hj 0 _ rfl, hc j hj 1 _ rfl, hc j hj 2 _ rfl, hc j hj 3 _ rfl⟩
def HeldP (mb : Nat) (vm : Value) (sb : Nat) (vs : Value) (b o : Nat) (f : Int) (va : Value) (w : World) : Prop := w.cell? ⟨mb, 1, none⟩ = some vm ∧ w.cell? ⟨sb, 1, none⟩ = some vs ∧ w.cell? ⟨b, o, none⟩ = some (.int .i64 f) ∧ w.cell? ⟨b, o + 1, none⟩ = some va
theorem right_states {m : Mc} (hr : faultM m = 0) : ∀ j, j < m.2.length → finB (el m.2 j).1 = true ∧ (el m.2 j).2.length ≤ 400 ∧ ∀ p ∈ (el m.2 j).2, 0 ≤ p.2.2.2 ∧ p.2.2.2 ≤ 1000 := fun j hj => by
 have h400 := (right_size (z := m.1) (l := m.2) hr).2
 have h60 := (right_size (z := m.1) (l := m.2) hr).1
 have h1 := arcN_take hj
 have h2 := arcN_takeR m.2 (j + 1)
 have h3 := (right_parts hr).2 (el m.2 j) (el_mem hj)
 refine ⟨stB_fin h3, by omega, fun p hp => ?_⟩
 simp only [stB, Bool.and_eq_true, List.all_eq_true] at h3
 have h4 := h3.2 p hp
 simp only [arcB, inB, Bool.and_eq_true, decide_eq_true_eq] at h4
 omega
end Go.Proofs.Ytfpibdaedfilaaa.Wt
namespace Go.Proofs.Ytfpibdaedfilaaa.Pl
def leL (a b : List Bool) : Prop := a.length = b.length ∧ ∀ j, j < a.length → el a j = true → el b j = true
theorem el_setB {l : List Bool} {q j : Nat} (hq : q < l.length) : el (l.set q true) j = if j = q then true else el l j := by
 by_cases h : j = q
 ·subst h; rw [if_pos rfl, el_get (by simpa using hq)]; simp
 ·rw [if_neg h]; simp [el, List.getElem?_set_ne (Ne.symm h)]
structure Pass (C : (Nat → Prop) → Prop) (n : Nat) (b0 bs : List Bool) (chk : Prop) : Prop where
 len : bs.length = n
 le : leL b0 bs
 sound : ∀ T, C T → ∀ q, q < n → el bs q = true → T q
 chk : bs = b0 → chk
structure Rounds (C : (Nat → Prop) → Prop) (n k : Nat) (bs : List Bool) : Prop where
 len : bs.length = n
 sound : ∀ T, C T → ∀ q, q < n → el bs q = true → T q
 more : C (fun q => el bs q = true) ∨ k ≤ bs.count true
theorem el_false {n j : Nat} : el (List.replicate n false) j = false := by
 unfold el
 rw [List.getElem?_replicate]
 split <;> rfl
end Go.Proofs.Ytfpibdaedfilaaa.Pl
namespace Go.Proofs.Ytfpibdaedfilaaa.Wt
open Go.ChangeShapes Go.WideShapes Go.ChangeAt Go.RowKit
open Go.Proofs.Ytfpibdaedfilaaa.Pl
set_option linter.unusedVariables false
set_option linter.unusedSimpArgs false
theorem made_bools (n : Nat) : madeCells (Value.cells (.bool false)) (n * 1) = ((List.replicate n false).map Value.bool).toArray := by
 have hz : Value.cells (.bool false) = #[.bool false] := rfl
 apply Array.ext_getElem?
 intro t
 simp only [madeCells, hz, Array.getElem?_map, List.map_replicate]
 by_cases ht : t < n
 ·simp [ht, Nat.mod_one]
 ·simp [ht]
theorem set_bool {bs : List Bool} {q : Nat} : (bs.map Value.bool).toArray.setIfInBounds q (.bool true) = ((bs.set q true).map Value.bool).toArray := by simp [List.map_set]
theorem bool_cell {w : World} {g : Nat} {bs : List Bool} {t : TypeId} (h : Blk w g (bs.map Value.bool).toArray t) {j : Nat} (hj : j < bs.length) : w.cell? ⟨g, j, none⟩ = some (.bool (el bs j)) := by
 refine h.cell _ ?_
 simp [hj, el]
theorem infoBool : (Try.prog.info? 4).map (fun i => (i.zero, i.size, i.bytes)) = some (some (.bool false), 1, 1) := by kernel_rfl
end Go.Proofs.Ytfpibdaedfilaaa.Wt
namespace Go.Proofs.Ytfpibdaedfilaaa.Wt
open Go.ChangeShapes Go.WideShapes Go.ChangeAt Go.RowKit
open Go.Proofs.Ytfpibdaedfilaaa.Pl
set_option linter.unusedVariables false
def falses (w : World) (b : Nat) : Nat := match w.heap[b]? with
 | some (.cells cs _ _) => cs.toList.countP fun v => match v with | .bool false => true | _ => false
 | _ => 0
theorem falses_blk {w : World} {b : Nat} {bs : List Bool} {t : TypeId} (h : Blk w b (bs.map Value.bool).toArray t) : falses w b = bs.count false := by
 unfold Blk at h
 unfold falses
 rw [h]
 simp only
 rw [List.countP_map]
 unfold List.count
 refine List.countP_congr fun x _ => ?_
 cases x <;> simp
end Go.Proofs.Ytfpibdaedfilaaa.Wt
namespace Go.Proofs.Ytfpibdaedfilaaa.Pl
theorem pigeon : ∀ (n : Nat) (l : List Nat), l.Nodup → (∀ x ∈ l, x < n) → l.length ≤ n := by
  intro n
  induction n with
  | zero =>
    intro l _ h
    cases l with
    | nil => simp
    | cons a l => exact absurd (h a (by simp)) (Nat.not_lt_zero _)
  | succ n ih =>
    intro l hn h
    have h1 := ih (l.erase n) (hn.erase n) (fun x hx => by
      have h2 := h x (List.mem_of_mem_erase hx)
      have h3 : x ≠ n := fun e => by subst e; exact hn.not_mem_erase hx
      omega)
    rw [List.length_erase] at h1
    split at h1 <;> omega
end Go.Proofs.Ytfpibdaedfilaaa.Pl
namespace Go.Proofs.Ytfpibdaedfilaaa.Pl
set_option linter.unusedVariables false
set_option linter.unusedSimpArgs false
def lab (a : Int) : List Int := if a = 0 then [] else [a]
inductive Way (l : List St) (q : Nat) : List Int → List Int → Nat → Nat → Prop
 | nil : Way l q [] [] q 0
 | snoc {u v : List Int} {p c : Nat} (h : Way l q u v p c) {a : Ar} (ha : a ∈ (el l p).2) {t : Nat} (ht : a.2.2.2 = (t : Int)) : Way l q (u ++ lab a.1) (v ++ lab a.2.1) t (c + a.2.2.1.toNat)
theorem Way.trans {l : List St} {q p r c d : Nat} {u v u' v' : List Int} (h : Way l q u v p c) (k : Way l p u' v' r d) : Way l q (u ++ u') (v ++ v') r (c + d) := by
  induction k with
  | nil => simpa using h
  | snoc k ha ht ih =>
    have := Way.snoc ih ha ht
    rwa [List.append_assoc, List.append_assoc, Nat.add_assoc] at this
theorem Way.cons {l : List St} {q t p c : Nat} {u v : List Int} {a : Ar} (ha : a ∈ (el l q).2) (ht : a.2.2.2 = (t : Int)) (h : Way l t u v p c) : Way l q (lab a.1 ++ u) (lab a.2.1 ++ v) p (a.2.2.1.toNat + c) := by
 have h1 := Way.snoc (Way.nil (l := l) (q := q)) ha ht
 have := h1.trans h
 simpa using this
theorem Way.inside {l : List St} {q p c : Nat} {u v : List Int} (h : Way l q u v p c) (hq : q < l.length) (hto : ∀ q, q < l.length → ∀ a ∈ (el l q).2, ∃ t : Nat, a.2.2.2 = (t : Int) ∧ t < l.length) : p < l.length := by
  induction h with
  | nil => exact hq
  | snoc h ha ht ih =>
    obtain ⟨t, e, ht'⟩ := hto _ ih _ ha
    rename_i t'
    have : t = t' := by omega
    omega
def Costs (m : Mc) (x y : List Int) (c : Nat) : Prop := 0 ≤ m.1 ∧ ∃ p d, Way m.2 m.1.toNat x y p d ∧ p < m.2.length ∧ (el m.2 p).1 ≠ 1000000001 ∧ c = d + (el m.2 p).1.toNat
def LeastP (P : Nat → Prop) (c : Nat) : Prop := P c ∧ ∀ d, P d → c ≤ d
theorem LeastP.one {P : Nat → Prop} {c d : Nat} (h : LeastP P c) (k : LeastP P d) : c = d := Nat.le_antisymm (h.2 d k.1) (k.2 c h.1)
def WghAns (P : Nat → Prop) (n e : Int) : Prop := ((∀ c, ¬ P c) ∧ n = 1000000001 ∧ e = 0) ∨ ∃ c : Nat, LeastP P c ∧ ((c ≤ 1000000000 ∧ n = (c : Int) ∧ e = 0) ∨ (1000000000 < c ∧ n = 0 ∧ e = 4))
section
variable {E : Nat → Nat → Nat → Prop} {s : Nat}
inductive Run (E : Nat → Nat → Nat → Prop) (s : Nat) : Nat → Nat → Nat → Prop
 | nil : Run E s 0 s 0
 | step {n k c w j : Nat} (h : Run E s n k c) (e : E k w j) : Run E s (n + 1) j (c + w)
theorem Run.cost {W n k c : Nat} (h : Run E s n k c) (hW : ∀ k w j, E k w j → w ≤ W) : c ≤ n * W := by
  induction h with
  | nil => simp
  | step h e ih =>
    have := hW _ _ _ e
    rw [Nat.add_mul]
    omega
theorem Run.trans {n k c m j d : Nat} (h : Run E s n k c) (g : Run E k m j d) : Run E s (n + m) j (c + d) := by
 induction g with
 | nil => exact h
 | step g e ih => rw [← Nat.add_assoc, ← Nat.add_assoc]; exact ih.step e
theorem Run.places {n k c : Nat} (h : Run E s n k c) : ∃ f : Nat → Nat, f 0 = s ∧ f n = k ∧ (∀ i, i ≤ n → ∃ d, Run E s i (f i) d ∧ ∃ d', Run E (f i) (n - i) k d') := by
  induction h with
  | nil => exact ⟨fun _ => s, rfl, rfl, fun i hi => ⟨0, by rw [show i = 0 by omega]; exact .nil, 0, by rw [show i = 0 by omega]; exact .nil⟩⟩
  | step h e ih =>
    rename_i n k c w j
    obtain ⟨f, f0, fn, hf⟩ := ih
    refine ⟨fun i => if i ≤ n then f i else j, by simp [f0], if_neg (by omega), fun i hi => ?_⟩
    by_cases g : i ≤ n
    · simp only [g, if_true]
      obtain ⟨d, h1, d', h2⟩ := hf i g
      refine ⟨d, h1, d' + w, ?_⟩
      have := h2.step e
      rwa [show n - i + 1 = n + 1 - i by omega] at this
    · obtain rfl : i = n + 1 := by omega
      simp only [g, if_false]
      exact ⟨c + w, h.step e, 0, by rw [Nat.sub_self]; exact .nil⟩
theorem twice {f : Nat → Nat} {n N : Nat} (hf : ∀ i, i ≤ n → f i < N) (hn : N ≤ n) : ∃ i j, i < j ∧ j ≤ n ∧ f i = f j := by
 by_cases h : ∃ i j, i < j ∧ j ≤ n ∧ f i = f j
 ·exact h
 ·exfalso
  have hnd : ((List.range (n + 1)).map f).Nodup := by
   unfold List.Nodup
   rw [List.pairwise_map]
   refine List.Pairwise.imp_of_mem ?_ (List.pairwise_lt_range (n := n + 1))
   intro a b ha hb hab e
   rw [List.mem_range] at hb
   exact h ⟨a, b, hab, by omega, e⟩
  have := pigeon N _ hnd (fun x hx => by
   rw [List.mem_map] at hx
   obtain ⟨i, hi, rfl⟩ := hx
   rw [List.mem_range] at hi
   exact hf i (by omega))
  simp at this
  omega
theorem Run.short {N : Nat} (hs : s < N) (hE : ∀ k w j, E k w j → j < N) : ∀ {n k c : Nat}, Run E s n k c → ∃ m d, m < N ∧ Run E s m k d := by
  have key : ∀ b n k c, n < b → Run E s n k c → ∃ m d, m < N ∧ Run E s m k d := by
    intro b
    induction b with
    | zero => intro n k c hn; omega
    | succ b ih =>
      intro n k c hn h
      by_cases g : n < N
      · exact ⟨n, c, g, h⟩
      · obtain ⟨f, f0, fn, hf⟩ := h.places
        have hin : ∀ i, i ≤ n → f i < N := fun i hi => by
          obtain ⟨d, h1, _⟩ := hf i hi
          generalize f i = y at h1
          cases h1 with
          | nil => exact hs
          | step _ e => exact hE _ _ _ e
        obtain ⟨i, j, hij, hj, e⟩ := twice hin (by omega)
        obtain ⟨d, h1, _⟩ := hf i (by omega)
        obtain ⟨_, _, d', h2⟩ := hf j hj
        rw [← e] at h2
        exact ih _ _ _ (by omega) (h1.trans h2)
  exact fun {n k c} h => key (n + 1) n k c (by omega) h
end
end Go.Proofs.Ytfpibdaedfilaaa.Pl
