/- append at a row of the call's own: where the row lies behind it; worlds that differ in one row. -/
import Derived.Test.YthajkkobgfighaaGreatDoorJac
import Derived.Test.YthajkkobgfighaaGreatDoorJaa
import Derived.Test.YthajkkobgfighaaGreatDoorJab
import Derived.Laws.MakeOwn
namespace Go.Proofs.YthajkkobgfighaaGreatDoor.Wt
open Go.ChangeShapes Go.WideShapes Go.ChangeAt Go.RowKit
open Go.Proofs.YthajkkobgfighaaGreatDoor.Pl
set_option linter.unusedVariables false
def Near (w : World) (r : Option Nat) (v : Value) : Prop := v.ownBlock = r ∨ ∃ b, v.ownBlock = some b ∧ w.heap.size ≤ b
theorem Near.grown {w W W' : World} {r : Option Nat} {v : Value} (hn : Near w r v) (h : w.grownBy W r) (hg : W.grownBy W' v.ownBlock) : w.grownBy W' r := by
 refine ⟨hg.os.trans h.os, hg.tape.trans h.tape, hg.output.trans h.output, Nat.le_trans h.size hg.size, fun k hk hne => ?_⟩
 refine (hg.block k (Nat.lt_of_lt_of_le hk h.size) ?_).trans (h.block k hk hne)
 rcases hn with e | ⟨b, e, hb⟩
 ·rw [e]; exact hne
 ·rw [e]; intro e2; simp at e2; omega
theorem Near.next {w W : World} {r : Option Nat} {v v' : Value} (hn : Near w r v) (h : w.grownBy W r) (hs : Near W v.ownBlock v') : Near w r v' := by
 rcases hs with e | ⟨b, e, hb⟩
 ·rcases hn with e2 | ⟨b, e2, hb⟩
  ·exact .inl (e.trans e2)
  ·exact .inr ⟨b, e.trans e2, hb⟩
 ·exact .inr ⟨b, e, Nat.le_trans h.size hb⟩
theorem gTrans {a b c : World} {r : Option Nat} (h : a.grownBy b r) (k : b.grownBy c r) : a.grownBy c r := ⟨k.os.trans h.os, k.tape.trans h.tape, k.output.trans h.output, Nat.le_trans h.size k.size, fun i hi hne => (k.block i (Nat.lt_of_lt_of_le hi h.size) hne).trans (h.block i hi hne)⟩
theorem gNew {a b : World} {r : Option Nat} (hb : Below a.heap.size a b) : a.grownBy b r := ⟨hb.os, hb.tape, hb.output, hb.size, fun k hk _ => hb.block k hk⟩
theorem gSet (w : World) (b o : Nat) (v : Value) : w.grownBy (w.setCell ⟨b, o, none⟩ v) (some b) := ⟨rfl, rfl, rfl, by simp [World.setCell], fun k _ hne => Below.heap_setCell w _ _ k (by intro e; exact hne (by rw [e]))⟩
theorem gSetNew {a b : World} {r : Option Nat} (h : a.grownBy b r) {g : Nat} (hg : a.heap.size ≤ g) (o : Nat) (v : Value) : a.grownBy (b.setCell ⟨g, o, none⟩ v) r := ⟨h.os, h.tape, h.output, by simp [World.setCell]; exact h.size, fun k hk hne => (Below.heap_setCell b _ _ k (by show k ≠ g; omega)).trans (h.block k hk hne)⟩
theorem gBelow {a b : World} {r : Option Nat} {base : Nat} (h : a.grownBy b r) (hr : ∀ k, r = some k → base ≤ k) (hs : base ≤ a.heap.size) : Below base a b := (Below.refl _ _).grown h hs hr
theorem run_append_spot {α : Type} [Inhabited α] {k : Nat} {enc : α → List Value} {P : Program} {w : World} (hk : ∀ x, (enc x).length = k) (hk0 : 0 < k) (h1c : ∀ x, ∀ u ∈ enc x, u.oneCell' = true) (t ty : TypeId)
  (base : Nat) (e : TypeId) (i : TypeInfo) (z : Value) (bytes : Nat) (ht : P.underlying t = some (.slice e)) (hi : P.info? e = some i) (hz : i.zero = some z)
  (hsize : i.size = k) (hby : i.bytes = bytes) (hzs : z.cells.size = k)
  (v : Value) (n : Nat) (ms : List Value) (hown : w.ownsRow base e k v n ms) (vx : Value) (ns : List α) (hX : Row k enc w vx ns)
  (h63 : n + ns.length ≤ maxLen) (hbytes : (n + ns.length) * bytes ≤ 140737488355328) (hbase : base ≤ w.heap.size) :
  ∃ v' w', (Builtin.append_ #[t, t] ty #[v, vx]).run P w = .ok v' w' ∧ w'.ownsRow base e k v' (n + ns.length) (ms ++ ns.flatMap enc) ∧ w.grownBy w' v.ownBlock ∧ Near w v.ownBlock v' := by
 obtain ⟨v', w', hr, h2, h3⟩ := run_append_rows hk hk0 h1c t ty base e i z bytes ht hi hz hsize hby hzs v n ms hown vx ns hX h63 hbytes hbase
 refine ⟨v', w', hr, h2, h3, ?_⟩
 have hX0 := hX
 rcases hX with ⟨hv, hzs0⟩ | ⟨ad, cap, hv, hc⟩
 ·subst hv
  have h := run_append_owned_none (P := P) (w := w) base t ty e i k ht hi v n ms hown
  rw [hr] at h
  simp only [Result.ok.injEq] at h
  rw [h.1]
  exact .inl rfl
 ·have hown0 := hown
  rcases hown.2 with ⟨rfl, rfl⟩ | ⟨g, cap', cur, rfl, hbg, hg, hnc, hcm, hcs, htake⟩
  ·have hms : ms = [] := List.eq_nil_of_length_eq_zero (by simpa using hown.1)
   subst hms
   obtain ⟨v2, w2, hr2, h22, _⟩ := run_append_rows (w := w) hk hk0 h1c t ty w.heap.size e i z bytes ht hi hz hsize hby hzs (.slice none 0 0) 0 [] (World.ownsRow_nil _ _ _ _) vx ns hX0 h63 hbytes (Nat.le_refl _)
   rw [hr] at hr2
   simp only [Result.ok.injEq] at hr2
   rw [hr2.1]
   rcases h22.2 with ⟨rfl, _⟩ | ⟨g, c, cu, rfl, hb, _⟩
   ·exact .inl rfl
   ·exact .inr ⟨g, rfl, hb⟩
  ·subst hv
   subst hsize
   by_cases hroom : n + ns.length ≤ cap'
   ·have hl : (ns.flatMap enc).length = ns.length * i.size := flat_length hk ns
    have h := run_append_room (P := P) w t ty e i ht hi g n cap' cur hg ad ns.length cap (ns.flatMap enc) hl (row_news hk hk0 hc) (by
     intro u hu
     simp only [List.mem_flatMap] at hu
     obtain ⟨y, _, hy⟩ := hu
     exact h1c y u hy) hroom (by rw [hl, hcs, ← Nat.add_mul]; exact Nat.mul_le_mul_right _ hroom)
    rw [hr] at h
    simp only [Result.ok.injEq] at h
    rw [h.1]
    exact .inl rfl
   ·have h := run_append_grow (P := P) w t ty e i z ht hi hz ⟨g, 0, none⟩ n cap' ms hown.1 (hown.cells (g := g) rfl) ad ns.length cap (ns.flatMap enc) (flat_length hk ns) (row_news hk hk0 hc) (by omega) (by unfold maxLen at h63; omega) (by rw [hby]; exact growslice_fits (by omega) hbytes)
    rw [hr] at h
    simp only [Result.ok.injEq] at h
    rw [h.1]
    exact .inr ⟨_, rfl, Nat.le_refl _⟩
theorem wpList_append_spot {α : Type} [Inhabited α] {k : Nat} {enc : α → List Value} {P : Program} {w : World} {ops : Array Oper} {rest : List Oper} {o : Oper} {a : Act} {Q : Exit → Act → World → Prop} (hk : ∀ x, (enc x).length = k) (hk0 : 0 < k) (h1c : ∀ x, ∀ u ∈ enc x, u.oneCell' = true) (hgd : o.guard = none) (s x : Operand) (t : TypeId)
  (ho : o.op = .call { callee := .builtin .append, args := #[s, x], argTypes := #[t, t] })
  (base : Nat) (e : TypeId) (i : TypeInfo) (z : Value) (bytes : Nat) (ht : P.underlying t = some (.slice e)) (hi : P.info? e = some i) (hz : i.zero = some z)
  (hsize : i.size = k) (hby : i.bytes = bytes) (hzs : z.cells.size = k)
  (v : Value) (n : Nat) (ms : List Value) (hs : a.eval s = v) (hown : w.ownsRow base e k v n ms)
  (vx : Value) (ns : List α) (hx : a.eval x = vx) (hX : Row k enc w vx ns)
  (h63 : n + ns.length ≤ maxLen) (hbytes : (n + ns.length) * bytes ≤ 140737488355328) (hbase : base ≤ w.heap.size)
  (h : ∀ v' w', w'.ownsRow base e k v' (n + ns.length) (ms ++ ns.flatMap enc) → w.grownBy w' v.ownBlock → Near w v.ownBlock v' → wpList P ops Q rest (a.put o.dst v') w') : wpList P ops Q (o :: rest) a w := by
 obtain ⟨v', w', hr, h2, h3, h4⟩ := run_append_spot hk hk0 h1c t o.type base e i z bytes ht hi hz hsize hby hzs v n ms hown vx ns hX h63 hbytes hbase
 exact wpListAppendRun hgd s x t ho hs hx hr (h v' w' h2 h3 h4)
theorem wrapI {n : Int} (h0 : -9223372036854775808 ≤ n) (h1 : n ≤ 9223372036854775807) : IntKind.i64.wrap n = n := by
 have h64 : IntKind.i64.wrap n = if n % 18446744073709551616 ≥ 9223372036854775808 then n % 18446744073709551616 - 18446744073709551616 else n % 18446744073709551616 := by
  simp [IntKind.wrap, IntKind.bits, IntKind.signed]
 rw [h64]
 split <;> omega
theorem own_ne {w : World} {base : Nat} {e t : TypeId} {s : Nat} {v : Value} {n : Nat} {xs : List Value} (h : w.ownsRow base e s v n xs) {b : Nat} {cs : Array Value} (hb : Blk w b cs t) (hne : e ≠ t) : some b ≠ v.ownBlock := by
 rcases h.2 with ⟨rfl, _⟩ | ⟨g, cap', cur, rfl, hbg, hg, _⟩
 ·simp [Value.ownBlock]
 ·simp only [Value.ownBlock]
  intro e2
  simp at e2
  subst e2
  unfold Blk at hb
  rw [hg] at hb
  simp at hb
  exact hne hb.2
end Go.Proofs.YthajkkobgfighaaGreatDoor.Wt
namespace Go.Proofs.YthajkkobgfighaaGreatDoor.Wt
open Go.ChangeShapes Go.WideShapes Go.ChangeAt Go.RowKit
open Go.Proofs.YthajkkobgfighaaGreatDoor.Pl
set_option linter.unusedVariables false
set_option linter.unusedSimpArgs false
theorem run_pushG {W w1 : World} (s : St) (l : List St) (va vo : Value) (base : Nat)
  (hW : W.heap = w1.heap.push (.cells #[.int .i64 s.1, va] 33)) (hos : W.os = w1.os) (htp : W.tape = w1.tape) (hou : W.output = w1.output)
  (hown : OwnSts w1 base vo l) (hva : w1.ownsRow base 48 4 va s.2.length (s.2.flatMap encA)) (hl : (l.length + 1) * 32 ≤ 140737488355328) (hbase : base ≤ w1.heap.size) :
  ∃ v3 w3, (Builtin.append_ #[22, 22] 22 #[vo, .slice (some ⟨w1.heap.size, 0, none⟩) 1 1]).run Tryz.prog W = .ok v3 w3 ∧ OwnSts w3 base v3 (l ++ [s]) ∧ Below base w1 w3 ∧ W.grownBy w3 vo.ownBlock := by
 obtain ⟨v3, w3, hr, h1, h2⟩ := run_push s l va vo base hW hos htp hou hown hva hl hbase
 refine ⟨v3, w3, hr, h1, h2, ?_⟩
 obtain ⟨i1, hi1, hy0, hy1, hy2⟩ := info_parts infoState
 obtain ⟨vs, q1, q2, q3⟩ := hown
 have e1 : ∀ k, k < w1.heap.size → W.heap[k]? = w1.heap[k]? := fun k hk => by rw [hW, Array.getElem?_push_lt hk, Array.getElem?_eq_getElem hk]
 have e0 : W.heap[w1.heap.size]? = some (.cells #[.int .i64 s.1, va] 33 (0, 0)) := by rw [hW]; simp
 have es : W.heap.size = w1.heap.size + 1 := by rw [hW]; simp
 have hg : w1.grownBy W none := ⟨hos, htp, hou, by omega, fun k hk _ => e1 k hk⟩
 have hvo := q1.kept hg (by rcases vo.ownBlock with _ | _ <;> simp)
 obtain ⟨v4, w4, hr4, _, hg4, _⟩ := run_append_own (P := Tryz.prog) W base 22 22 33 i1 _ 2 32 Tryz.underlying22 hi1 hy0 hy1 hy2 rfl (by omega) vo vs.length (vs.flatMap encS) hvo ⟨w1.heap.size, 0, none⟩ 1 1 [.int .i64 s.1, va] rfl (World.news_of_block (cs := #[.int .i64 s.1, va]) e0) (by
  intro u hu
  simp at hu
  rcases hu with rfl | rfl
  ·rfl
  ·exact own_one hva) (by rw [q2]; unfold maxLen; omega) (by rw [q2]; exact hl) (by omega)
 rw [hr] at hr4
 simp only [Result.ok.injEq] at hr4
 rw [hr4.2]
 exact hg4
def OwnArcs (w : World) (base : Nat) (v : Value) (ar : List Ar) : Prop := w.ownsRow base 48 4 v ar.length (ar.flatMap encA)
theorem OwnArcs.nil (w : World) (base : Nat) : OwnArcs w base (.slice none 0 0) [] := World.ownsRow_nil _ _ _ _
theorem OwnArcs.made (w : World) (p : Ar) : OwnArcs (w.alloc (.cells #[.int .i64 p.1, .int .i64 p.2.1, .int .i64 p.2.2.1, .int .i64 p.2.2.2] 48)) w.heap.size (.slice (some ⟨w.heap.size, 0, none⟩) 1 1) [p] :=
 ⟨rfl, .inr ⟨w.heap.size, 1, #[.int .i64 p.1, .int .i64 p.2.1, .int .i64 p.2.2.1, .int .i64 p.2.2.2], rfl, Nat.le_refl _, Blk.made _ _ _, Nat.le_refl _, by decide, rfl, rfl⟩⟩
theorem OwnArcs.arcs {w : World} {base : Nat} {v : Value} {ar : List Ar} (h : OwnArcs w base v ar) : Arcs w v ar := Row.ofOwn encA_len h rfl
theorem OwnArcs.later {w w' : World} {base : Nat} {v : Value} {ar : List Ar} (h : OwnArcs w base v ar) (hb : Below w.heap.size w w') : OwnArcs w' base v ar := ownBelow h hb
theorem OwnArcs.sl {w : World} {base : Nat} {v : Value} {ar : List Ar} (h : OwnArcs w base v ar) : ∃ a c, v = .slice a ar.length c := own_sl h
theorem hidP {p : Prop} (h : p) : Hid p := h
theorem OwnArcs.push {W : World} {base : Nat} {v : Value} {ar : List Ar} (h : OwnArcs W base v ar) (c : Ar) (hl : ar.length ≤ 100000) (hbase : base ≤ W.heap.size) :
  ∃ a k w', (Builtin.append_ #[31, 31] 31 #[v, .slice (some ⟨W.heap.size, 0, none⟩) 1 1]).run Tryz.prog (W.alloc (.cells #[.int .i64 c.1, .int .i64 c.2.1, .int .i64 c.2.2.1, .int .i64 c.2.2.2] 48)) = .ok (.slice a (ar.length + 1) k) w' ∧ OwnArcs w' base (.slice a (ar.length + 1) k) (ar ++ [c]) ∧ Below base W w' := by
 obtain ⟨i1, hi1, hy0, hy1, hy2⟩ := info_parts infoArc
 have hB : Below W.heap.size W (W.alloc (.cells #[.int .i64 c.1, .int .i64 c.2.1, .int .i64 c.2.2.1, .int .i64 c.2.2.2] 48)) := (Below.refl _ _).alloc (Nat.le_refl _) _
 have hrow : Row 4 encA (W.alloc (.cells #[.int .i64 c.1, .int .i64 c.2.1, .int .i64 c.2.2.1, .int .i64 c.2.2.2] 48)) (.slice (some ⟨W.heap.size, 0, none⟩) 1 1) [c] := oneRow (enc := encA) W c rfl 48
 obtain ⟨v4, w4, r4, h4, g4, _⟩ := run_append_spot (P := Tryz.prog) encA_len (by decide) encA_one 31 31 base 48 i1 _ 32 Tryz.underlying31 hi1 hy0 hy1 hy2 rfl _ ar.length (ar.flatMap encA) (ownBelow h hB) _ [c] hrow (by simp; unfold maxLen; omega) (by simp; omega) (by simp; omega)
 obtain ⟨a, k, hv⟩ := own_sl h4
 subst hv
 refine ⟨a, k, w4, r4, by unfold OwnArcs; rw [List.length_append, List.flatMap_append]; exact h4, (hB.mono hbase).trans ((Below.refl _ _).grown g4 (by simp; omega) (fun k hk => (h.lt k hk).1))⟩
theorem arcs_at {w : World} {a : Option Addr} {n c : Nat} {ar : List Ar} (h : Arcs w (.slice a n c) ar) {j : Nat} (hj : j < ar.length) :
  ∃ b off, a = some ⟨b, off, none⟩ ∧ b < w.heap.size ∧ w.cell? ⟨b, off + j * 4, none⟩ = some (.int .i64 (el ar j).1) ∧ w.cell? ⟨b, off + j * 4 + 1, none⟩ = some (.int .i64 (el ar j).2.1) ∧ w.cell? ⟨b, off + j * 4 + 2, none⟩ = some (.int .i64 (el ar j).2.2.1) ∧ w.cell? ⟨b, off + j * 4 + 3, none⟩ = some (.int .i64 (el ar j).2.2.2) := by
 obtain ⟨b, off, cap', hv, hb, hc⟩ := Row.plain h (fun x => by simp [encA]) (by omega)
 injection hv with h1 _ _
 exact ⟨b, off, h1, hb, hc j hj 0 _ rfl, hc j hj 1 _ rfl, hc j hj 2 _ rfl, hc j hj 3 _ rfl⟩
def RatRes (x : Mc) (ec : Int) (w : World) (e : Ending) (w' : World) : Prop := ∃ v, e = .returned (.tuple #[v, .int .i64 ec]) ∧ Mach w' v x ∧ Below w.heap.size w w'
theorem mach_zeroR (w : World) : Mach w (.agg #[.int .i64 0, .slice none 0 0]) (0, []) := ⟨_, rfl, (OwnSts.nil w 0).sts⟩
theorem OwnSts.ne {w : World} {base : Nat} {v : Value} {l : List St} (h : OwnSts w base v l) {b : Nat} {cs : Array Value} (hb : Blk w b cs 24) : some b ≠ v.ownBlock := by
 obtain ⟨vs, h1, _⟩ := h
 exact own_ne h1 hb (by decide)
theorem OwnSts.setM {w : World} {base : Nat} {v : Value} {l : List St} (h : OwnSts w base v l) {b : Nat} {cs : Array Value} (hb : Blk w b cs 24) (o : Nat) (u : Value) : OwnSts (w.setCell ⟨b, o, none⟩ u) base v l := by
 obtain ⟨vs, h1, h2, h3⟩ := h
 exact ⟨vs, h1.kept (gSet w b o u) (.inr (Ne.symm (own_ne h1 hb (by decide)))), h2, fun j hj => ⟨(h3 j hj).1, (h3 j hj).2.kept (gSet w b o u) (.inr (Ne.symm (own_ne (h3 j hj).2 hb (by decide))))⟩⟩
theorem OwnSts.laterB {w w' : World} {base : Nat} {v : Value} {l : List St} (h : OwnSts w base v l) (hb : Below w.heap.size w w') : OwnSts w' base v l := h.kept (grownBelow hb)
theorem OwnArcs.mono {w : World} {base base' : Nat} {v : Value} {ar : List Ar} (h : OwnArcs w base v ar) (hb : base' ≤ base) : OwnArcs w base' v ar := ownMono h hb
theorem OwnSts.one {w : World} {base : Nat} {v : Value} {f : Int} {ar : List Ar} (h : OwnArcs w base v ar) (hb : base ≤ w.heap.size) : OwnSts (w.alloc (.cells #[.int .i64 f, v] 33)) base (.slice (some ⟨w.heap.size, 0, none⟩) 1 1) [(f, ar)] := by
 refine ⟨[(f, v)], ⟨rfl, .inr ⟨w.heap.size, 1, #[.int .i64 f, v], rfl, hb, Blk.made _ _ _, Nat.le_refl _, by decide, rfl, rfl⟩⟩, rfl, fun j hj => ?_⟩
 obtain rfl : j = 0 := by simpa using hj
 exact ⟨rfl, OwnArcs.later h ((Below.refl _ _).alloc (Nat.le_refl _) _)⟩
theorem push_step {w5 : World} {B Mb : Nat} {vo va : Value} {z : Int} {l : List St} (s : St) (hO : OwnSts w5 B vo l) (hva : OwnArcs w5 B va s.2) (hM : Blk w5 Mb #[.int .i64 z, vo] 24) (hB : B ≤ w5.heap.size) (hBM : B ≤ Mb) (hl : l.length ≤ 100000) :
  ∃ a c w6, (Builtin.append_ #[22, 22] 22 #[vo, .slice (some ⟨w5.heap.size, 0, none⟩) 1 1]).run Tryz.prog (w5.alloc (.cells #[.int .i64 s.1, va] 33)) = .ok (.slice a (l.length + 1) c) w6 ∧ Blk w6 Mb #[.int .i64 z, vo] 24 ∧ Below B w5 w6 ∧ OwnSts (w6.setCell ⟨Mb, 1, none⟩ (.slice a (l.length + 1) c)) B (.slice a (l.length + 1) c) (l ++ [s]) ∧ Blk (w6.setCell ⟨Mb, 1, none⟩ (.slice a (l.length + 1) c)) Mb #[.int .i64 z, .slice a (l.length + 1) c] 24 ∧ Below B w5 (w6.setCell ⟨Mb, 1, none⟩ (.slice a (l.length + 1) c)) := by
 obtain ⟨v6, w6, hr6, ho6, hb6, hg6⟩ := run_pushG (W := w5.alloc (.cells #[.int .i64 s.1, va] 33)) (w1 := w5) s l va vo B rfl rfl rfl rfl hO hva (by omega) hB
 obtain ⟨a6, c6, hv6⟩ := ho6.sts.sl
 rw [show (l ++ [s]).length = l.length + 1 from by simp] at hv6
 subst hv6
 have hM6 : Blk w6 Mb #[.int .i64 z, vo] 24 := (hM.alloc _).grown hg6 (hO.ne hM)
 exact ⟨a6, c6, w6, hr6, hM6, hb6, ho6.setM hM6 1 _, hM6.set 1 _, hb6.setCell (p := ⟨Mb, 1, none⟩) hBM _⟩
theorem right_states {m : Mc} (hr : faultM m = 0) : ∀ j, j < m.2.length → finB (el m.2 j).1 = true ∧ (el m.2 j).2.length ≤ 400 ∧ ∀ p ∈ (el m.2 j).2, 0 ≤ p.2.2.2 ∧ p.2.2.2 ≤ 1000 := fun j hj => by
 have h400 := (right_size (z := m.1) (l := m.2) hr).2
 have h60 := (right_size (z := m.1) (l := m.2) hr).1
 have h1 := arcN_take hj
 have h2 := arcN_takeR m.2 (j + 1)
 have h3 := (right_parts hr).2 (el m.2 j) (el_mem hj)
 refine ⟨stB_fin h3, by omega, fun p hp => ?_⟩
 simp only [stB, Bool.and_eq_true, List.all_eq_true] at h3
 have h4 := h3.2 p hp
 simp only [arcB, inB, Bool.and_eq_true, decide_eq_true_eq] at h4
 omega
def encI1 (x : Int) : List Value := [.int .i64 x]
theorem encI1_len (x : Int) : (encI1 x).length = 1 := rfl
theorem encI1_one (x : Int) : ∀ u ∈ encI1 x, u.oneCell' = true := by
 intro u hu
 simp [encI1] at hu
 subst hu; rfl
def Nums (w : World) (v : Value) (ks : List Int) : Prop := Row 1 encI1 w v ks
theorem Nums.later {w w' : World} {v : Value} {ks : List Int} (h : Nums w v ks) {B : Nat} (hb : Below B w w') (hB : w.heap.size ≤ B) : Nums w' v ks := Row.later h hb hB
theorem Nums.get {w : World} {v : Value} {bs : List Int} (h : Nums w v bs) : ∃ a cap, v = .slice a bs.length cap ∧ ∀ j, j < bs.length → ∃ b off, a = some ⟨b, off, none⟩ ∧ b < w.heap.size ∧ w.cell? ⟨b, off + j, none⟩ = some (.int .i64 (el bs j)) := by
 by_cases hz : 0 < bs.length
 ·obtain ⟨b, off, cap, hv, hb, hc⟩ := Row.plain h (fun x => by simp [encI1]) hz
  refine ⟨_, cap, hv, fun j hj => ⟨b, off, rfl, hb, ?_⟩⟩
  have := hc j hj 0 _ rfl
  rwa [Nat.mul_one, Nat.add_zero] at this
 ·obtain ⟨a, cap, hv⟩ := Row.sl h
  exact ⟨a, cap, hv, fun j hj => by omega⟩
theorem infoIntU : (Tryz.prog.info? 3).map (fun i => (i.zero, i.size, i.bytes)) = some (some (.int .i64 0), 1, 8) := by kernel_rfl
theorem made_nums (n : Nat) : madeCells (Value.cells (.int .i64 0)) (n * 1) = ((List.replicate n (0 : Int)).map (Value.int .i64)).toArray := by
 have hz : Value.cells (.int .i64 0) = #[.int .i64 0] := rfl
 apply Array.ext_getElem?
 intro t
 simp only [madeCells, hz, Array.getElem?_map, List.map_replicate]
 by_cases ht : t < n
 ·simp [ht, Nat.mod_one]
 ·simp [ht]
theorem run_nums (n : Nat) (hn : n ≤ 1000) (W : World) : (Instr.makeSlice 38 (.int .i64 (n : Int)) (.int .i64 (n : Int))).run Tryz.prog W = .ok (.slice (some ⟨W.heap.size, 0, none⟩) n n) (W.alloc (.cells ((List.replicate n (0 : Int)).map (Value.int .i64)).toArray 3)) := by
 obtain ⟨i1, hi1, hy0, hy1, hy2⟩ := info_parts infoIntU
 have h := run_make (P := Tryz.prog) W 38 3 i1 _ Tryz.underlying38 hi1 hy0 .i64 .i64 n n (by omega) (by omega) (by rw [hy2]; omega) (by omega)
 rw [hy1, Int.toNat_natCast, made_nums] at h
 exact h
theorem nums_block {w : World} {g cap : Nat} {ws : List Int} {t : TypeId} (h : Blk w g (ws.map (Value.int .i64)).toArray t) : Nums w (.slice (some ⟨g, 0, none⟩) ws.length cap) ws := by
  refine .inr ⟨⟨g, 0, none⟩, cap, rfl, fun j hj i u hu => ?_⟩
  cases i with
  | zero =>
    rw [Addr.add_lit, Nat.zero_add, Nat.mul_one, Nat.add_zero]
    refine h.cell _ ?_
    simp [encI1] at hu
    subst hu
    simp [hj, el]
  | succ i => simp [encI1] at hu
theorem num_cell {w : World} {g : Nat} {ws : List Int} {t : TypeId} (h : Blk w g (ws.map (Value.int .i64)).toArray t) {j : Nat} (hj : j < ws.length) : w.cell? ⟨g, j, none⟩ = some (.int .i64 (el ws j)) := by
 refine h.cell _ ?_
 simp [hj, el]
theorem set_num {ws : List Int} {q : Nat} {x : Int} : (ws.map (Value.int .i64)).toArray.setIfInBounds q (.int .i64 x) = ((ws.set q x).map (Value.int .i64)).toArray := by simp [List.map_set]
theorem el_setN {l : List Int} {q j : Nat} (hq : q < l.length) (x : Int) : el (l.set q x) j = if j = q then x else el l j := by
 by_cases h : j = q
 ·subst h; rw [if_pos rfl, el_get (by simpa using hq)]; simp
 ·rw [if_neg h]; simp [el, List.getElem?_set_ne (Ne.symm h)]
def encZ (t : Nat) : List Value := [.int .i64 (t : Int)]
theorem encZ_len (t : Nat) : (encZ t).length = 1 := rfl
theorem encZ_one (t : Nat) : ∀ u ∈ encZ t, u.oneCell' = true := by
 intro u hu
 simp [encZ] at hu
 subst hu
 rfl
theorem infoIntZ : (Tryz.prog.info? 3).map (fun i => (i.zero, i.size, i.bytes)) = some (some (.int .i64 0), 1, 8) := by kernel_rfl
def OwnZ (w : World) (base : Nat) (v : Value) (L : List Nat) : Prop := w.ownsRow base 3 1 v L.length (L.flatMap encZ)
theorem OwnZ.later {w w' : World} {base : Nat} {v : Value} {L : List Nat} (h : OwnZ w base v L) (hb : Below w.heap.size w w') : OwnZ w' base v L := ownBelow h hb
theorem OwnZ.sl {w : World} {base : Nat} {v : Value} {L : List Nat} (h : OwnZ w base v L) : ∃ a cap, v = .slice a L.length cap := own_sl h
theorem OwnZ.one (w : World) (t : Nat) {base : Nat} (hb : base ≤ w.heap.size) : OwnZ (w.alloc (.cells (encZ t).toArray 3)) base (.slice (some ⟨w.heap.size, 0, none⟩) 1 1) [t] := by
 refine ⟨rfl, .inr ⟨w.heap.size, 1, (encZ t).toArray, rfl, hb, Blk.made _ _ _, by simp, by unfold maxLen; omega, rfl, ?_⟩⟩
 simp [encZ]
theorem OwnZ.get {w : World} {base : Nat} {v : Value} {L : List Nat} (h : OwnZ w base v L) : ∃ a cap, v = .slice a L.length cap ∧ ∀ j, j < L.length → ∃ b off, a = some ⟨b, off, none⟩ ∧ b < w.heap.size ∧ w.cell? ⟨b, off + j, none⟩ = some (.int .i64 ((el L j : Nat) : Int)) := by
 have hr : Row 1 encZ w v L := Row.ofOwn encZ_len h rfl
 by_cases hz : 0 < L.length
 ·obtain ⟨b, off, cap, hv, hb, hc⟩ := hr.plain (fun x => by rw [encZ_len]; omega) hz
  exact ⟨_, cap, hv, fun j hj => ⟨b, off, rfl, hb, by have h9 := hc j hj 0 _ rfl; simpa using h9⟩⟩
 ·obtain ⟨a, cap, hv⟩ := hr.sl
  exact ⟨a, cap, hv, fun j hj => absurd hj (by omega)⟩
theorem OwnZ.cell {w : World} {base : Nat} {a : Option Addr} {n cap : Nat} {L : List Nat} (h : OwnZ w base (.slice a n cap) L) {j : Nat} (hj : j < L.length) : ∃ b off, a = some ⟨b, off, none⟩ ∧ b < w.heap.size ∧ w.cell? ⟨b, off + j, none⟩ = some (.int .i64 ((el L j : Nat) : Int)) := by
 obtain ⟨a', cap', hv, hc⟩ := h.get
 obtain ⟨rfl, _, _⟩ : a = a' ∧ n = L.length ∧ cap = cap' := by simpa using hv
 exact hc j hj
theorem OwnSts.keptZ {w w' : World} {base b' : Nat} {v vl : Value} {l : List St} {L : List Nat} (h : OwnSts w base v l) (ht : OwnZ w b' vl L) (hg : w.grownBy w' vl.ownBlock) : OwnSts w' base v l := by
 obtain ⟨vs, h1, h2, h3⟩ := h
 exact ⟨vs, h1.kept hg (own_apart h1 ht (by decide)), h2, fun j hj => ⟨(h3 j hj).1, (h3 j hj).2.kept hg (own_apart (h3 j hj).2 ht (by decide))⟩⟩
theorem gRowZ {a b c : World} {r r' : Option Nat} (h : a.grownBy b r) (k : b.grownBy c r') (hr : ∀ x, r' = some x → a.heap.size ≤ x) : a.grownBy c r :=
 ⟨k.os.trans h.os, k.tape.trans h.tape, k.output.trans h.output, Nat.le_trans h.size k.size, fun i hi hne => (k.block i (Nat.lt_of_lt_of_le hi h.size) (fun e => by have := hr i e.symm; omega)).trans (h.block i hi hne)⟩
structure LmIn (w6 wr : World) (r0 : Option Nat) (base Sb : Nat) (fin : Int) (va : Value) (ar : List Ar) (vl : Value) (L : List Nat) : Prop where
 grow : w6.grownBy wr r0
 near : Near w6 r0 vl
 trs : OwnZ wr base vl L
 sb : Blk wr Sb #[.int .i64 fin, va] 33
 arcs : OwnArcs wr w6.heap.size va ar
 sbge : w6.heap.size ≤ Sb
section
variable {w6 wr : World} {r0 : Option Nat} {base Sb : Nat} {fin : Int} {va vl : Value} {ar : List Ar} {L : List Nat}
theorem LmIn.later {w' : World} (h : LmIn w6 wr r0 base Sb fin va ar vl L) (hb : Below wr.heap.size wr w') : LmIn w6 w' r0 base Sb fin va ar vl L :=
 ⟨gTrans h.grow (gNew hb), h.near, h.trs.later hb, h.sb.below hb h.sb.lt, h.arcs.later hb, h.sbge⟩
theorem LmIn.drew (h : LmIn w6 wr r0 base Sb fin va ar vl L) : LmIn w6 wr.drew r0 base Sb fin va ar vl L := h.later (Below.refl wr.heap.size wr).drew
theorem LmIn.drewN (h : LmIn w6 wr r0 base Sb fin va ar vl L) (q : Nat) : LmIn w6 (wr.drewN q) r0 base Sb fin va ar vl L := h.later ⟨rfl, rfl, rfl, Nat.le_refl _, fun _ _ => rfl⟩
theorem LmIn.pushZ (h : LmIn w6 wr r0 base Sb fin va ar vl L) (t : Nat) (hl : L.length ≤ 1000) (hb : base ≤ w6.heap.size) :
  ∃ v' w', (Builtin.append_ #[38, 38] 38 #[vl, .slice (some ⟨wr.heap.size, 0, none⟩) 1 1]).run Tryz.prog (wr.alloc (.cells (encZ t).toArray 3)) = .ok v' w' ∧ LmIn w6 w' r0 base Sb fin va ar v' (L ++ [t]) ∧ (wr.alloc (.cells (encZ t).toArray 3)).grownBy w' vl.ownBlock := by
 obtain ⟨i1, hi1, hy0, hy1, hy2⟩ := info_parts infoIntZ
 have hs := h.grow.size
 have hA := h.later ((Below.refl wr.heap.size wr).alloc (Nat.le_refl _) (.cells (encZ t).toArray 3))
 obtain ⟨v4, w4, r4, ho4, hg4, hn4⟩ := run_append_spot (P := Tryz.prog) (w := wr.alloc (.cells (encZ t).toArray 3)) encZ_len (by decide) encZ_one 38 38 base 3 i1 _ 8 Tryz.underlying38 hi1 hy0 hy1 hy2 rfl _ L.length (L.flatMap encZ) hA.trs _ [t] (oneRow (enc := encZ) wr t rfl 3) (by simp; unfold maxLen; omega) (by simp; omega) (by simp; omega)
 have hT : OwnZ w4 base v4 (L ++ [t]) := by unfold OwnZ; rw [List.length_append, List.flatMap_append]; exact ho4
 exact ⟨v4, w4, r4, ⟨h.near.grown hA.grow hg4, h.near.next hA.grow hn4, hT, hA.sb.grown hg4 (own_ne hA.trs hA.sb (by decide)), World.ownsRow.kept hA.arcs hg4 (own_apart hA.arcs hA.trs (by decide)), h.sbge⟩, hg4⟩
theorem LmIn.pushA (h : LmIn w6 wr r0 base Sb fin va ar vl L) (c : Ar) (hl : ar.length ≤ 100000) :
  ∃ v' w', (Builtin.append_ #[31, 31] 31 #[va, .slice (some ⟨wr.heap.size, 0, none⟩) 1 1]).run Tryz.prog (wr.alloc (.cells (encA c).toArray 48)) = .ok v' w' ∧ w6.grownBy w' r0 ∧ Blk w' Sb #[.int .i64 fin, va] 33 ∧ LmIn w6 (w'.setCell ⟨Sb, 1, none⟩ v') r0 base Sb fin v' (ar ++ [c]) vl L := by
 obtain ⟨i1, hi1, hy0, hy1, hy2⟩ := info_parts infoArc
 have hs := h.grow.size
 have hA := h.later ((Below.refl wr.heap.size wr).alloc (Nat.le_refl _) (.cells (encA c).toArray 48))
 obtain ⟨v4, w4, r4, ho4, hg4, hn4⟩ := run_append_spot (P := Tryz.prog) (w := wr.alloc (.cells (encA c).toArray 48)) encA_len (by decide) encA_one 31 31 w6.heap.size 48 i1 _ 32 Tryz.underlying31 hi1 hy0 hy1 hy2 rfl _ ar.length (ar.flatMap encA) hA.arcs _ [c] (oneRow (enc := encA) wr c rfl 48) (by simp; unfold maxLen; omega) (by simp; omega) (by simp; omega)
 have hO : OwnArcs w4 w6.heap.size v4 (ar ++ [c]) := by unfold OwnArcs; rw [List.length_append, List.flatMap_append]; exact ho4
 have hG : w6.grownBy w4 r0 := gRowZ hA.grow hg4 (fun x hx => (hA.arcs.lt x hx).1)
 have hS : Blk w4 Sb #[.int .i64 fin, va] 33 := hA.sb.grown hg4 (own_ne hA.arcs hA.sb (by decide))
 have hT : OwnZ w4 base vl L := World.ownsRow.kept hA.trs hg4 (own_apart hA.trs hA.arcs (by decide))
 refine ⟨v4, w4, r4, hG, hS, gSetNew hG h.sbge 1 _, h.near, World.ownsRow.kept hT (gSet w4 Sb 1 v4) (.inr (Ne.symm (own_ne hT hS (by decide)))), ?_, World.ownsRow.kept hO (gSet w4 Sb 1 v4) (.inr (Ne.symm (own_ne hO hS (by decide)))), h.sbge⟩
 have h9 := hS.set 1 v4
 exact h9
end
structure LmAt (W wr : World) (M : Nat) (vm : Value) (S : List St) (vl : Value) (L : List Nat) : Prop where
 bxM : Blk wr M #[.int .i64 0, vm] 24
 sts : OwnSts wr W.heap.size vm S
 trs : OwnZ wr W.heap.size vl L
 below : Below W.heap.size W wr
 sM : W.heap.size ≤ M
section
variable {W wr w' : World} {M : Nat} {vm : Value} {S : List St} {vl : Value} {L : List Nat}
theorem LmAt.later (h : LmAt W wr M vm S vl L) (hb : Below wr.heap.size wr w') : LmAt W w' M vm S vl L :=
 ⟨h.bxM.below hb h.bxM.lt, h.sts.laterB hb, h.trs.later hb, h.below.trans (hb.mono h.below.size), h.sM⟩
theorem LmAt.enter (h : LmAt W wr M vm S vl L) (fin : Int) : LmIn wr (wr.alloc (.cells #[.int .i64 fin, .slice none 0 0] 33)) vl.ownBlock W.heap.size wr.heap.size fin (.slice none 0 0) [] vl L :=
 ⟨gNew ((Below.refl _ _).alloc (Nat.le_refl _) _), .inl rfl, h.trs.later ((Below.refl _ _).alloc (Nat.le_refl _) _), Blk.made _ _ _, OwnArcs.nil _ _, Nat.le_refl _⟩
theorem LmAt.meanwhile {w6 : World} {v6 : Value} {L6 : List Nat} (h : LmAt W w6 M vm S v6 L6) (hg : w6.grownBy wr v6.ownBlock) (ht : OwnZ wr W.heap.size vl L) : LmAt W wr M vm S vl L := by
 have hs := h.below.size
 exact ⟨h.bxM.grown hg (own_ne h.trs h.bxM (by decide)), h.sts.keptZ h.trs hg, ht, h.below.trans (gBelow hg (fun k hk => by have := (h.trs.lt k hk).1; omega) hs), h.sM⟩
theorem LmAt.push (h : LmAt W wr M vm S vl L) (s : St) {va : Value} (hva : OwnArcs wr W.heap.size va s.2) (hl : S.length ≤ 100000) :
  ∃ v' w', (Builtin.append_ #[22, 22] 22 #[vm, .slice (some ⟨wr.heap.size, 0, none⟩) 1 1]).run Tryz.prog (wr.alloc (.cells #[.int .i64 s.1, va] 33)) = .ok v' w' ∧ Blk w' M #[.int .i64 0, vm] 24 ∧ LmAt W (w'.setCell ⟨M, 1, none⟩ v') M v' (S ++ [s]) vl L := by
 obtain ⟨v6, w6, hr6, ho6, hb6, hg6⟩ := run_pushG (W := wr.alloc (.cells #[.int .i64 s.1, va] 33)) (w1 := wr) s S va vm W.heap.size rfl rfl rfl rfl h.sts hva (by omega) h.below.size
 have hA := h.later ((Below.refl wr.heap.size wr).alloc (Nat.le_refl _) (.cells #[.int .i64 s.1, va] 33))
 have hM6 : Blk w6 M #[.int .i64 0, vm] 24 := hA.bxM.grown hg6 (hA.sts.ne hA.bxM)
 obtain ⟨vs, q1, q2, q3⟩ := hA.sts
 have hT6 : OwnZ w6 W.heap.size vl L := World.ownsRow.kept hA.trs hg6 (own_apart hA.trs q1 (by decide))
 refine ⟨v6, w6, hr6, hM6, hM6.set 1 _, ho6.setM hM6 1 _, World.ownsRow.kept hT6 (gSet w6 M 1 v6) (.inr (Ne.symm (own_ne hT6 hM6 (by decide)))), h.below.trans (hb6.setCell (p := ⟨M, 1, none⟩) h.sM _), h.sM⟩
end
end Go.Proofs.YthajkkobgfighaaGreatDoor.Wt
namespace Go.Proofs.YthajkkobgfighaaGreatDoor.Pl
def leadsB (l : List St) (p q : Nat) : Bool := (el l p).2.any fun a => decide (a.2.2.2 = (q : Int))
def FreeQ (l : List St) (out : List Int) (q : Nat) : Prop := (q : Int) ∉ out ∧ ∀ p, p < l.length → leadsB l p q = true → (p : Int) ∈ out
def NextQ (l : List St) (out : List Int) (x : Int) : Prop := ∃ q : Nat, x = (q : Int) ∧ q < l.length ∧ FreeQ l out q ∧ ∀ p, p < q → ¬ FreeQ l out p
theorem NextQ.one {l : List St} {out : List Int} {x y : Int} (h : NextQ l out x) (k : NextQ l out y) : x = y := by
 obtain ⟨q, rfl, hq, h1, h2⟩ := h
 obtain ⟨p, rfl, hp, k1, k2⟩ := k
 rcases Nat.lt_trichotomy q p with e | e | e
 ·exact absurd h1 (k2 q e)
 ·rw [e]
 ·exact absurd k1 (h2 p e)
def StepsL (l : List St) (out : List Int) : Prop := ∀ i, i < out.length → NextQ l (out.take i) (el out i)
theorem StepsL.nil (l : List St) : StepsL l [] := fun _ hi => absurd hi (Nat.not_lt_zero _)
theorem StepsL.snoc {l : List St} {out : List Int} {x : Int} (h : StepsL l out) (hx : NextQ l out x) : StepsL l (out ++ [x]) := by
 intro i hi
 by_cases e : i < out.length
 ·rw [el_left e, List.take_append_of_le_length (by omega)]
  exact h i e
 ·have : i = out.length := by simp at hi; omega
  subst this
  rw [el_last, List.take_left]
  exact hx
theorem StepsL.take {l : List St} {a b : List Int} (ha : StepsL l a) (hb : StepsL l b) : ∀ i, i ≤ a.length → i ≤ b.length → a.take i = b.take i := by
  intro i
  induction i with
  | zero => simp
  | succ i ih =>
    intro h1 h2
    have h3 := ih (by omega) (by omega)
    have h4 := ha i (by omega)
    have h5 := hb i (by omega)
    rw [← h3] at h5
    rw [take_el (by omega), take_el (by omega), h3, h4.one h5]
def OrderL (l : List St) (out : List Int) : Prop := StepsL l out ∧ out.length = l.length
theorem OrderL.one {l : List St} {a b : List Int} (ha : OrderL l a) (hb : OrderL l b) : a = b := by
 have := ha.1.take hb.1 a.length (Nat.le_refl _) (by rw [ha.2, hb.2]; exact Nat.le_refl _)
 rw [List.take_length] at this
 rw [this, List.take_of_length_le (by rw [ha.2, hb.2]; exact Nat.le_refl _)]
theorem StepsL.mem {l : List St} {out : List Int} (h : StepsL l out) {x : Int} (hx : x ∈ out) : ∃ q : Nat, x = (q : Int) ∧ q < l.length := by
 obtain ⟨i, hi, rfl⟩ := mem_el hx
 obtain ⟨q, h1, h2, _⟩ := h i hi
 exact ⟨q, h1, h2⟩
theorem StepsL.nodup {l : List St} {out : List Int} (h : StepsL l out) : out.Nodup := by
 rw [List.nodup_iff_pairwise_ne, List.pairwise_iff_getElem]
 intro i j hi hj hij
 obtain ⟨q, h1, _, h2, _⟩ := h j hj
 rw [el_get hj] at h1
 rw [h1]
 intro e
 refine h2.1 (e ▸ ?_)
 have : (out.take j)[i]'(by rw [List.length_take]; omega) = out[i] := List.getElem_take
 rw [← this]
 exact List.getElem_mem _
theorem pigeon : ∀ (n : Nat) (l : List Nat), l.Nodup → (∀ x ∈ l, x < n) → l.length ≤ n := by
  intro n
  induction n with
  | zero =>
    intro l _ h
    cases l with
    | nil => simp
    | cons a l => exact absurd (h a (by simp)) (Nat.not_lt_zero _)
  | succ n ih =>
    intro l hn h
    have h1 := ih (l.erase n) (hn.erase n) (fun x hx => by
      have h2 := h x (List.mem_of_mem_erase hx)
      have h3 : x ≠ n := fun e => by subst e; exact hn.not_mem_erase hx
      omega)
    rw [List.length_erase] at h1
    split at h1 <;> omega
theorem pigeon_all {n : Nat} {l : List Nat} (hn : l.Nodup) (h : ∀ x ∈ l, x < n) (hl : l.length = n) {q : Nat} (hq : q < n) : q ∈ l := by
 by_cases e : q ∈ l
 ·exact e
 ·have := pigeon n (q :: l) (List.nodup_cons.2 ⟨e, hn⟩) (fun x hx => by
   rcases List.mem_cons.1 hx with rfl | hx
   ·exact hq
   ·exact h x hx)
  simp at this
  omega
theorem OrderL.all {l : List St} {out : List Int} (h : OrderL l out) {q : Nat} (hq : q < l.length) : (q : Int) ∈ out := by
 have hs : ∀ x ∈ out.map Int.toNat, x < l.length := by
  intro x hx
  obtain ⟨y, hy, rfl⟩ := List.mem_map.1 hx
  obtain ⟨p, rfl, hp⟩ := h.1.mem hy
  simpa using hp
 have hn : (out.map Int.toNat).Nodup := by
  rw [List.nodup_iff_pairwise_ne, List.pairwise_map]
  have := h.1.nodup
  rw [List.nodup_iff_pairwise_ne] at this
  refine List.Pairwise.imp_of_mem ?_ this
  intro a b ha hb hab e
  obtain ⟨p, rfl, _⟩ := h.1.mem ha
  obtain ⟨p', rfl, _⟩ := h.1.mem hb
  simp at e
  exact hab (by rw [e])
 have : q ∈ out.map Int.toNat := pigeon_all hn hs (by simp [h.2]) hq
 obtain ⟨y, hy, e⟩ := List.mem_map.1 this
 obtain ⟨p, rfl, _⟩ := h.1.mem hy
 simp at e
 rw [← e]; exact hy
theorem OrderL.later {l : List St} {out : List Int} (h : OrderL l out) {i q : Nat} (hi : i < out.length) (hq : el out i = (q : Int)) {a : Ar} (ha : a ∈ (el l q).2) {t : Nat} (ht : a.2.2.2 = (t : Int)) (htn : t < l.length) : (t : Int) ∈ out.drop (i + 1) := by
 have hqn : q < l.length := by
  obtain ⟨p, e, hp, _⟩ := h.1 i hi
  rw [hq] at e
  omega
 obtain ⟨j, hj, hej⟩ := mem_el (h.all htn)
 obtain ⟨t', e1, _, e2, _⟩ := h.1 j hj
 rw [hej] at e1
 obtain rfl : t = t' := by omega
 have h1 := e2.2 q hqn (List.any_eq_true.2 ⟨a, ha, by simpa using ht⟩)
 obtain ⟨k, hk, hek⟩ := mem_el h1
 rw [List.length_take] at hk
 rw [el_take (by omega)] at hek
 have hki : k = i := by
  have hnd := h.1.nodup
  have := (List.getElem_inj (h₀ := (by omega : k < out.length)) (h₁ := hi) hnd).1 (by rw [← el_get, ← el_get, hek, hq])
  exact this
 have hij : i < j := by omega
 refine List.mem_iff_getElem.2 ⟨j - (i + 1), by rw [List.length_drop]; omega, ?_⟩
 rw [List.getElem_drop, ← hej, el_get hj]
 congr 1
 omega
end Go.Proofs.YthajkkobgfighaaGreatDoor.Pl
