/- The reference's comparison of two machines. -/
import Derived.Test.YtobhjhjfannnnaaUaa
import Derived.Laws.StructEq
import Derived.Test.YtobhjhjfannnnaaUab
namespace Go.Proofs.Ytobhjhjfannnnaa.Wt
open Go.ChangeShapes Go.WideShapes Go.ChangeAt Go.RowKit
open Go.Proofs.Ytobhjhjfannnnaa.Pl
set_option linter.unusedVariables false
set_option linter.unusedSimpArgs false
set_option maxHeartbeats 1000000 in
theorem sameArcs_any (v1 v2 : Value) (l : List Ar) (w : World) (h1 : Arcs w v1 l) (h2 : Arcs w v2 l) (hm : l.length ≤ maxLen) :
  Calls Try.prog 59 #[v1, v2] w fun e w' => e = .returned (.bool true) ∧ ∃ q, w' = w.drewN q := by
 unfold maxLen at hm
 by_cases hz : 0 < l.length
 ·obtain ⟨b, off, cap, rfl, hbl, hc⟩ := h1.plain hz
  obtain ⟨b2, off2, cap2, rfl, hbl2, hc2⟩ := h2.plain hz
  clear h1 h2
  generalize hn : l.length = n at *
  go_enter Try.func59, Try.ntmps59
  go_wp2
  go_loopw [5] (fun i wr => ∃ k q : Nat, k ≤ n ∧ i = .int .i64 k ∧ wr = w.drewN q) (fun i _ => n - (intOf i).toNat)
  case atStart => exact ⟨0, 0, Nat.zero_le _, rfl, (World.drewN_zero w).symm⟩
  case round =>
   obtain ⟨k, q, hk, rfl, rfl⟩ := hrel
   by_cases hlt : k < n
   ·obtain ⟨g0, g1, g2, g3⟩ := hc k hlt
    obtain ⟨r0, r1, r2, r3⟩ := hc2 k hlt
    clear hc hc2
    generalize el l k = p at *
    obtain ⟨p0, p1, p2, p3⟩ := p
    go_wp2
    go_quiet (fail)
    go_wp2
    go_roundw
    case rel => exact ⟨k + 1, q + nq, by omega, by go_num, by first | rfl | rw [World.drewN_drewN]⟩
    case measure => simp [intOf]; omega
   ·go_wp2
    go_ret
    exact ⟨rfl, q, rfl⟩
 ·obtain rfl : l = [] := List.eq_nil_of_length_eq_zero (by omega)
  obtain ⟨a, cap, rfl⟩ := h1.empty
  obtain ⟨a2, cap2, rfl⟩ := h2.empty
  go_enter Try.func59, Try.ntmps59
  go_wp2
  refine wp_loop_rounds 1 ?_; rw [rounds_succ]
  go_wp2
  go_ret
  exact ⟨rfl, 0, (World.drewN_zero w).symm⟩
theorem Arcs.drewN {w : World} {v : Value} {l : List Ar} (h : Arcs w v l) (q : Nat) : Arcs (w.drewN q) v l := h
set_option maxHeartbeats 1000000 in
set_option maxRecDepth 100000 in
theorem sameMachine_ref (v1 v2 : Value) (m : Mc) (w : World) (h1 : Mach w v1 m) (h2 : Mach w v2 m) (hok : okM m) :
  Calls Try.prog 31 #[v1, v2] w fun e w' => e = .returned (.bool true) ∧ Below w.heap.size w w' := by
 obtain ⟨z, l⟩ := m
 obtain ⟨vs, rfl, hS⟩ := h1
 obtain ⟨vs2, rfl, hS2⟩ := h2
 obtain ⟨a, cap, rfl, hc⟩ := hS.get
 obtain ⟨a2, cap2, rfl, hc2⟩ := hS2.get
 have HC : Hid (∀ j, j < l.length → ∃ b off va, a = some ⟨b, off, none⟩ ∧ b < w.heap.size ∧ w.cell? ⟨b, off + j * 2, none⟩ = some (.int .i64 (el l j).1) ∧ w.cell? ⟨b, off + j * 2 + 1, none⟩ = some va ∧ Arcs w va (el l j).2) := hc
 have HC2 : Hid (∀ j, j < l.length → ∃ b off va, a2 = some ⟨b, off, none⟩ ∧ b < w.heap.size ∧ w.cell? ⟨b, off + j * 2, none⟩ = some (.int .i64 (el l j).1) ∧ w.cell? ⟨b, off + j * 2 + 1, none⟩ = some va ∧ Arcs w va (el l j).2) := hc2
 have hl := hok.1
 have HL : Hid (∀ j, j < l.length → (el l j).2.length ≤ maxLen) := fun j hj => by have := hok.2 j hj; unfold maxLen; simp only at this; omega
 clear hS hS2 hc hc2 hok
 simp only at hl ⊢
 generalize hn : l.length = n at *
 have hnot : ∀ (x : Bool) (w : World), (Op.unary .not (.bool x)).run Try.prog w = .ok (.bool (!x)) w := fun _ _ => rfl
 go_enter Try.func31, Try.ntmps31
 go_wp2
 go_loopw [5] (fun i wr => ∃ k q : Nat, k ≤ n ∧ i = .int .i64 k ∧ wr = ((w.alloc (.cells #[.int .i64 z, .slice a n cap] 24)).alloc (.cells #[.int .i64 z, .slice a2 n cap2] 24)).drewN q) (fun i _ => n - (intOf i).toNat)
 case atStart => exact ⟨0, 0, Nat.zero_le _, rfl, (World.drewN_zero _).symm⟩
 case round =>
  obtain ⟨k, q, hk, rfl, hw⟩ := hrel
  have HW : Hid (wr = ((w.alloc (.cells #[.int .i64 z, .slice a n cap] 24)).alloc (.cells #[.int .i64 z, .slice a2 n cap2] 24)).drewN q) := hw
  have hb : Below w.heap.size w wr := by rw [hw]; exact below_drewN (by go_grown) q
  have c1 : wr.cell? ⟨w.heap.size, 1, none⟩ = some (.slice a n cap) := by rw [hw]; go_cell
  have c2 : wr.cell? ⟨w.heap.size + 1, 1, none⟩ = some (.slice a2 n cap2) := by rw [hw]; go_cell
  clear hw
  by_cases hlt : k < n
  ·obtain ⟨b, off, va, rfl, hbl, g0, g1, gA⟩ := HC.out k hlt
   obtain ⟨b2, off2, va2, rfl, hbl2, r0, r1, rA⟩ := HC2.out k hlt
   have GA : Hid (Arcs wr va (el l k).2) := gA.later hb (Nat.le_refl _)
   have RA : Hid (Arcs wr va2 (el l k).2) := rA.later hb (Nat.le_refl _)
   have HLk : Hid ((el l k).2.length ≤ maxLen) := HL.out k hlt
   have g0 := (hb.cell (p := ⟨b, off + k * 2, none⟩) hbl).trans g0
   have g1 := (hb.cell (p := ⟨b, off + k * 2 + 1, none⟩) hbl).trans g1
   have r0 := (hb.cell (p := ⟨b2, off2 + k * 2, none⟩) hbl2).trans r0
   have r1 := (hb.cell (p := ⟨b2, off2 + k * 2 + 1, none⟩) hbl2).trans r1
   clear gA rA hb hbl hbl2
   generalize (el l k).1 = f at *
   go_wp2
   go_quiet (first | (go_at_call 59; refine Calls.quiet_of (sameArcs_any _ _ _ _ (GA.out.drewN _) (RA.out.drewN _) HLk.out)))
   go_wp2
   go_roundw
   case rel => exact ⟨k + 1, q + nq, by omega, by go_num, by rw [HW.out, World.drewN_drewN]⟩
   case measure => simp [intOf]; omega
  ·go_wp2
   go_ret
   exact ⟨rfl, hb⟩
theorem sameMachine_any (v1 v2 : Value) (m : Mc) (w : World) (h1 : Mach w v1 m) (h2 : Mach w v2 m) (hok : okM m) :
  Calls Try.prog 13 #[v1, v2] w fun e w' => e = .returned (.bool true) ∧ Below w.heap.size w w' := by
 have H1 : Hid (Mach w v1 m) := h1
 have H2 : Hid (Mach w v2 m) := h2
 obtain ⟨z, l⟩ := m
 obtain ⟨vs, rfl, hS⟩ := h1
 obtain ⟨vs2, rfl, hS2⟩ := h2
 obtain ⟨a, cap, rfl⟩ := hS.sl
 obtain ⟨a2, cap2, rfl⟩ := hS2.sl
 clear hS hS2
 simp only at H1 H2 ⊢
 have HU : Hid (Below w.heap.size w ((w.alloc (.cells #[.int .i64 z, .slice a l.length cap] 24)).alloc (.cells #[.int .i64 z, .slice a2 l.length cap2] 24))) := by show Below _ _ _; go_grown
 go_enter Try.func13, Try.ntmps13
 go_wp2_with (first | (go_at_call 31; (with_reducible refine (sameMachine_ref _ _ (z, l) _ (H1.out.later HU.out (Nat.le_refl _)) (H2.out.later HU.out (Nat.le_refl _)) hok).mono ?_); rintro e w' ⟨rfl, hb⟩))
 go_ret
 exact ⟨rfl, HU.out.trans (hb.mono HU.out.size)⟩
end Go.Proofs.Ytobhjhjfannnnaa.Wt
namespace Go.Proofs.Ytobhjhjfannnnaa.Wt
open Go.ChangeShapes Go.WideShapes Go.ChangeAt Go.RowKit
open Go.Proofs.Ytobhjhjfannnnaa.Pl
set_option linter.unusedVariables false
theorem grownBelow {w w' : World} (hb : Below w.heap.size w w') : w.grownBy w' none := ⟨hb.os, hb.tape, hb.output, hb.size, fun k hk _ => hb.block k hk⟩
theorem ownBelow {w w' : World} {base : Nat} {e : TypeId} {s : Nat} {v : Value} {n : Nat} {xs : List Value} (h : w.ownsRow base e s v n xs) (hb : Below w.heap.size w w') : w'.ownsRow base e s v n xs :=
 h.kept (grownBelow hb) (by rcases v.ownBlock with _ | _ <;> simp)
theorem oneRow {α : Type} [Inhabited α] {k : Nat} {enc : α → List Value} (w : World) (p : α) (hk : (enc p).length = k) (t : TypeId) : Row k enc (w.alloc (.cells (enc p).toArray t)) (.slice (some ⟨w.heap.size, 0, none⟩) 1 1) [p] := by
 refine .inr ⟨⟨w.heap.size, 0, none⟩, 1, rfl, fun j hj i u hu => ?_⟩
 have hj0 : j = 0 := by simp at hj; exact hj
 subst hj0
 rw [Addr.add_lit]
 refine (Blk.made w _ _).cell _ ?_
 rw [Nat.zero_mul, Nat.zero_add, Nat.zero_add]
 rw [el_zero] at hu
 simpa using hu
theorem snocFacts {α : Type} {k : Nat} {enc : α → List Value} {w w' : World} {base : Nat} {e : TypeId} {vo v : Value} {l : List α} {p : α} {ob : Obj} (ho : w.ownsRow base e k vo l.length (l.flatMap enc)) (hs : base ≤ w.heap.size) (h : w'.ownsRow base e k v (l.length + [p].length) (l.flatMap enc ++ [p].flatMap enc)) (hg : (w.alloc ob).grownBy w' vo.ownBlock) :
  Hid (w'.ownsRow base e k v (l ++ [p]).length ((l ++ [p]).flatMap enc)) ∧ Hid (Below base w w') ∧ Hid (base ≤ w'.heap.size) := by
 have hb : Below base w w' := ((Below.refl _ _).alloc hs ob).grown hg (by simp; omega) (own_geK ho)
 exact ⟨by show World.ownsRow _ _ _ _ _ _ _; rw [List.length_append, List.flatMap_append]; exact h, hb, Nat.le_trans hs hb.size⟩
theorem wpListAppendRun {P : Program} {ops : Array Oper} {Q : Exit → Act → World → Prop} {rest : List Oper} {o : Oper} {a : Act} {w w' : World} {v1 v2 v3 : Value} (hgd : o.guard = none) (x y : Operand) (t : TypeId) (ho : o.op = .call { callee := .builtin .append, args := #[x, y], argTypes := #[t, t] }) (hx : a.eval x = v1) (hy : a.eval y = v2)
  (hr : (Builtin.append_ #[t, t] o.type #[v1, v2]).run P w = .ok v3 w') (h : wpList P ops Q rest (a.put o.dst v3) w') : wpList P ops Q (o :: rest) a w :=
 wpList_plain hgd fun _ hK => wp_append_run x y t ho hx hy hr (hK _ _ h)
theorem boxedTwo {w w1 : World} {c0 c1 : Array Value} {t0 t1 : TypeId} {n : Nat} (hb : Below n ((w.alloc (.cells c0 t0)).alloc (.cells c1 t1)) w1) (hn : n = w.heap.size + 2) : w.heap.size + 2 ≤ w1.heap.size ∧ Blk w1 w.heap.size c0 t0 ∧ Blk w1 (w.heap.size + 1) c1 t1 ∧ Below w.heap.size w w1 := by
 subst hn
 have h := hb.size
 simp only [World.size_alloc] at h
 have k1 := Blk.made (w.alloc (.cells c0 t0)) c1 t1
 simp only [World.size_alloc] at k1
 exact ⟨h, ((Blk.made w c0 t0).alloc _).below hb (by omega), k1.below hb (by omega), (((Below.refl _ _).alloc (Nat.le_refl _) _).alloc (by simp) _).trans (hb.mono (by omega))⟩
def Near (w : World) (r : Option Nat) (v : Value) : Prop := v.ownBlock = r ∨ ∃ b, v.ownBlock = some b ∧ w.heap.size ≤ b
theorem gTrans {a b c : World} {r : Option Nat} (h : a.grownBy b r) (k : b.grownBy c r) : a.grownBy c r := ⟨k.os.trans h.os, k.tape.trans h.tape, k.output.trans h.output, Nat.le_trans h.size k.size, fun i hi hne => (k.block i (Nat.lt_of_lt_of_le hi h.size) hne).trans (h.block i hi hne)⟩
theorem gNew {a b : World} {r : Option Nat} (hb : Below a.heap.size a b) : a.grownBy b r := ⟨hb.os, hb.tape, hb.output, hb.size, fun k hk _ => hb.block k hk⟩
theorem gSet (w : World) (b o : Nat) (v : Value) : w.grownBy (w.setCell ⟨b, o, none⟩ v) (some b) := ⟨rfl, rfl, rfl, by simp [World.setCell], fun k _ hne => Below.heap_setCell w _ _ k (by intro e; exact hne (by rw [e]))⟩
theorem gBelow {a b : World} {r : Option Nat} {base : Nat} (h : a.grownBy b r) (hr : ∀ k, r = some k → base ≤ k) (hs : base ≤ a.heap.size) : Below base a b := (Below.refl _ _).grown h hs hr
theorem run_append_spot {α : Type} [Inhabited α] {k : Nat} {enc : α → List Value} {P : Program} {w : World} (hk : ∀ x, (enc x).length = k) (hk0 : 0 < k) (h1c : ∀ x, ∀ u ∈ enc x, u.oneCell' = true) (t ty : TypeId)
  (base : Nat) (e : TypeId) (i : TypeInfo) (z : Value) (bytes : Nat) (ht : P.underlying t = some (.slice e)) (hi : P.info? e = some i) (hz : i.zero = some z)
  (hsize : i.size = k) (hby : i.bytes = bytes) (hzs : z.cells.size = k)
  (v : Value) (n : Nat) (ms : List Value) (hown : w.ownsRow base e k v n ms) (vx : Value) (ns : List α) (hX : Row k enc w vx ns)
  (h63 : n + ns.length ≤ maxLen) (hbytes : (n + ns.length) * bytes ≤ 140737488355328) (hbase : base ≤ w.heap.size) :
  ∃ v' w', (Builtin.append_ #[t, t] ty #[v, vx]).run P w = .ok v' w' ∧ w'.ownsRow base e k v' (n + ns.length) (ms ++ ns.flatMap enc) ∧ w.grownBy w' v.ownBlock ∧ Near w v.ownBlock v' := by
 obtain ⟨v', w', hr, h2, h3⟩ := run_append_rows hk hk0 h1c t ty base e i z bytes ht hi hz hsize hby hzs v n ms hown vx ns hX h63 hbytes hbase
 refine ⟨v', w', hr, h2, h3, ?_⟩
 have hX0 := hX
 rcases hX with ⟨hv, hzs0⟩ | ⟨ad, cap, hv, hc⟩
 ·subst hv
  have h := run_append_owned_none (P := P) (w := w) base t ty e i k ht hi v n ms hown
  rw [hr] at h
  simp only [Result.ok.injEq] at h
  rw [h.1]
  exact .inl rfl
 ·have hown0 := hown
  rcases hown.2 with ⟨rfl, rfl⟩ | ⟨g, cap', cur, rfl, hbg, hg, hnc, hcm, hcs, htake⟩
  ·have hms : ms = [] := List.eq_nil_of_length_eq_zero (by simpa using hown.1)
   subst hms
   obtain ⟨v2, w2, hr2, h22, _⟩ := run_append_rows (w := w) hk hk0 h1c t ty w.heap.size e i z bytes ht hi hz hsize hby hzs (.slice none 0 0) 0 [] (World.ownsRow_nil _ _ _ _) vx ns hX0 h63 hbytes (Nat.le_refl _)
   rw [hr] at hr2
   simp only [Result.ok.injEq] at hr2
   rw [hr2.1]
   rcases h22.2 with ⟨rfl, _⟩ | ⟨g, c, cu, rfl, hb, _⟩
   ·exact .inl rfl
   ·exact .inr ⟨g, rfl, hb⟩
  ·subst hv
   subst hsize
   by_cases hroom : n + ns.length ≤ cap'
   ·have hl : (ns.flatMap enc).length = ns.length * i.size := flat_length hk ns
    have h := run_append_room (P := P) w t ty e i ht hi g n cap' cur hg ad ns.length cap (ns.flatMap enc) hl (row_news hk hk0 hc) (by
     intro u hu
     simp only [List.mem_flatMap] at hu
     obtain ⟨y, _, hy⟩ := hu
     exact h1c y u hy) hroom (by rw [hl, hcs, ← Nat.add_mul]; exact Nat.mul_le_mul_right _ hroom)
    rw [hr] at h
    simp only [Result.ok.injEq] at h
    rw [h.1]
    exact .inl rfl
   ·have h := run_append_grow (P := P) w t ty e i z ht hi hz ⟨g, 0, none⟩ n cap' ms hown.1 (hown.cells (g := g) rfl) ad ns.length cap (ns.flatMap enc) (flat_length hk ns) (row_news hk hk0 hc) (by omega) (by unfold maxLen at h63; omega) (by rw [hby]; exact growslice_fits (by omega) hbytes)
    rw [hr] at h
    simp only [Result.ok.injEq] at h
    rw [h.1]
    exact .inr ⟨_, rfl, Nat.le_refl _⟩
theorem wrapI {n : Int} (h0 : -9223372036854775808 ≤ n) (h1 : n ≤ 9223372036854775807) : IntKind.i64.wrap n = n := by
 have h64 : IntKind.i64.wrap n = if n % 18446744073709551616 ≥ 9223372036854775808 then n % 18446744073709551616 - 18446744073709551616 else n % 18446744073709551616 := by
  simp [IntKind.wrap, IntKind.bits, IntKind.signed]
 rw [h64]
 split <;> omega
theorem own_ne {w : World} {base : Nat} {e t : TypeId} {s : Nat} {v : Value} {n : Nat} {xs : List Value} (h : w.ownsRow base e s v n xs) {b : Nat} {cs : Array Value} (hb : Blk w b cs t) (hne : e ≠ t) : some b ≠ v.ownBlock := by
 rcases h.2 with ⟨rfl, _⟩ | ⟨g, cap', cur, rfl, hbg, hg, _⟩
 ·simp [Value.ownBlock]
 ·simp only [Value.ownBlock]
  intro e2
  simp at e2
  subst e2
  unfold Blk at hb
  rw [hg] at hb
  simp at hb
  exact hne hb.2
end Go.Proofs.Ytobhjhjfannnnaa.Wt
namespace Go.Proofs.Ytobhjhjfannnnaa.Wt
open Go.ChangeShapes Go.WideShapes Go.ChangeAt Go.RowKit
open Go.Proofs.Ytobhjhjfannnnaa.Pl
set_option linter.unusedVariables false
set_option linter.unusedSimpArgs false
section
variable {P : Program} {ops : Array Oper} {Q : Exit → Act → World → Prop} {md : Region.Mode} {S : World → Prop} {L : Nat}
theorem anyL_br {rs : List Nat} {n : Nat} {listed : Array Bool} {a : Act} {w : World} (hr : Region.ready md ops listed = rs) (hne : rs ≠ [])
  (h : ∀ i ∈ rs, ∃ o, ops[i]? = some o ∧ o.guard = none ∧ ∀ K : Act → World → Prop, (∀ b x, (i = L ∨ S x) → AnyL P md ops Q S L n (listed.setIfInBounds i true) b x → K b x) → Oper.wp P o a w K Q) : AnyL P md ops Q S L (n + 1) listed a w := by
 refine ⟨fun h0 => absurd (hr ▸ h0) hne, ?_⟩
 rw [hr]
 intro j hj
 obtain ⟨o, hi, hg, h⟩ := h j hj
 refine wpOp_step hi (fun K hK => ?_)
 have hw : Region.wanted o (yielded ops a.tmps) = true := by simp [Region.wanted, hg]
 rw [if_pos hw]
 exact h K (fun b x h1 h2 => hK b x ⟨h1, h2⟩)
end
end Go.Proofs.Ytobhjhjfannnnaa.Wt
namespace Go.Proofs.Ytobhjhjfannnnaa.Pl
theorem pigeon : ∀ (n : Nat) (l : List Nat), l.Nodup → (∀ x ∈ l, x < n) → l.length ≤ n := by
  intro n
  induction n with
  | zero =>
    intro l _ h
    cases l with
    | nil => simp
    | cons a l => exact absurd (h a (by simp)) (Nat.not_lt_zero _)
  | succ n ih =>
    intro l hn h
    have h1 := ih (l.erase n) (hn.erase n) (fun x hx => by
      have h2 := h x (List.mem_of_mem_erase hx)
      have h3 : x ≠ n := fun e => by subst e; exact hn.not_mem_erase hx
      omega)
    rw [List.length_erase] at h1
    split at h1 <;> omega
end Go.Proofs.Ytobhjhjfannnnaa.Pl
namespace Go.Proofs.Ytobhjhjfannnnaa.Pl
set_option linter.unusedVariables false
set_option linter.unusedSimpArgs false
def lab (a : Int) : List Int := if a = 0 then [] else [a]
inductive Way (l : List St) (q : Nat) : List Int → List Int → Nat → Nat → Prop
 | nil : Way l q [] [] q 0
 | snoc {u v : List Int} {p c : Nat} (h : Way l q u v p c) {a : Ar} (ha : a ∈ (el l p).2) {t : Nat} (ht : a.2.2.2 = (t : Int)) : Way l q (u ++ lab a.1) (v ++ lab a.2.1) t (c + a.2.2.1.toNat)
def LeastP (P : Nat → Prop) (c : Nat) : Prop := P c ∧ ∀ d, P d → c ≤ d
theorem LeastP.one {P : Nat → Prop} {c d : Nat} (h : LeastP P c) (k : LeastP P d) : c = d := Nat.le_antisymm (h.2 d k.1) (k.2 c h.1)
def WghAns (P : Nat → Prop) (n e : Int) : Prop := ((∀ c, ¬ P c) ∧ n = 1000000001 ∧ e = 0) ∨ ∃ c : Nat, LeastP P c ∧ ((c ≤ 1000000000 ∧ n = (c : Int) ∧ e = 0) ∨ (1000000000 < c ∧ n = 0 ∧ e = 4))
theorem WghAns.one {P : Nat → Prop} {n e n' e' : Int} (h : WghAns P n e) (k : WghAns P n' e') : n = n' ∧ e = e' := by
 rcases h with ⟨h, rfl, rfl⟩ | ⟨c, hc, h⟩
 ·rcases k with ⟨k, rfl, rfl⟩ | ⟨d, hd, _⟩
  ·exact ⟨rfl, rfl⟩
  ·exact absurd hd.1 (h d)
 ·rcases k with ⟨k, _⟩ | ⟨d, hd, k⟩
  ·exact absurd hc.1 (k c)
  ·have := hc.one hd
   subst this
   rcases h with ⟨h1, rfl, rfl⟩ | ⟨h1, rfl, rfl⟩ <;> rcases k with ⟨k1, rfl, rfl⟩ | ⟨k1, rfl, rfl⟩ <;> first | exact ⟨rfl, rfl⟩ | omega
section
variable {E : Nat → Nat → Nat → Prop} {s : Nat}
inductive Run (E : Nat → Nat → Nat → Prop) (s : Nat) : Nat → Nat → Nat → Prop
 | nil : Run E s 0 s 0
 | step {n k c w j : Nat} (h : Run E s n k c) (e : E k w j) : Run E s (n + 1) j (c + w)
theorem Run.cost {W n k c : Nat} (h : Run E s n k c) (hW : ∀ k w j, E k w j → w ≤ W) : c ≤ n * W := by
  induction h with
  | nil => simp
  | step h e ih =>
    have := hW _ _ _ e
    rw [Nat.add_mul]
    omega
theorem Run.trans {n k c m j d : Nat} (h : Run E s n k c) (g : Run E k m j d) : Run E s (n + m) j (c + d) := by
 induction g with
 | nil => exact h
 | step g e ih => rw [← Nat.add_assoc, ← Nat.add_assoc]; exact ih.step e
theorem twice {f : Nat → Nat} {n N : Nat} (hf : ∀ i, i ≤ n → f i < N) (hn : N ≤ n) : ∃ i j, i < j ∧ j ≤ n ∧ f i = f j := by
 by_cases h : ∃ i j, i < j ∧ j ≤ n ∧ f i = f j
 ·exact h
 ·exfalso
  have hnd : ((List.range (n + 1)).map f).Nodup := by
   unfold List.Nodup
   rw [List.pairwise_map]
   refine List.Pairwise.imp_of_mem ?_ (List.pairwise_lt_range (n := n + 1))
   intro a b ha hb hab e
   rw [List.mem_range] at hb
   exact h ⟨a, b, hab, by omega, e⟩
  have := pigeon N _ hnd (fun x hx => by
   rw [List.mem_map] at hx
   obtain ⟨i, hi, rfl⟩ := hx
   rw [List.mem_range] at hi
   exact hf i (by omega))
  simp at this
  omega
end
def fitN (l : List Int) (i : Nat) (b : Int) : Option Nat := if b = 0 then some i else if i < l.length ∧ el l i = b then some (i + 1) else none
def idx (X Y q i j : Nat) : Nat := (q * (X + 1) + i) * (Y + 1) + j
def fitF (free : Bool) (y : List Int) (j : Nat) (b : Int) : Option Nat := if free = true then some j else fitN y j b
def Edge (l : List St) (x y : List Int) (free : Bool) (k w k' : Nat) : Prop :=
 ∃ q i j a t i' j', q < l.length ∧ i ≤ x.length ∧ j ≤ y.length ∧ a ∈ (el l q).2 ∧ a.2.2.2 = ((t : Nat) : Int) ∧ fitN x i a.1 = some i' ∧ fitF free y j a.2.1 = some j' ∧ k = idx x.length y.length q i j ∧ w = a.2.2.1.toNat ∧ k' = idx x.length y.length t i' j'
theorem arcN_takeR (l : List St) (k : Nat) : arcN (l.take k) ≤ arcN l := by
 conv => rhs; rw [← List.take_append_drop k l, arcN_append]
 omega
theorem right_parts {m : Mc} (h : faultM m = 0) : (-1 ≤ m.1 ∧ m.1 ≤ (m.2.length : Int) - 1) ∧ ∀ s ∈ m.2, stB m.2.length s = true := by
 have h1 := (faultM_zero h).2
 simp only [rangeB, Bool.and_eq_true, inB, decide_eq_true_eq, List.all_eq_true] at h1
 exact h1
theorem stB_fin {n : Nat} {s : St} (h : stB n s = true) : finB s.1 = true := by
 simp only [stB, Bool.and_eq_true] at h
 exact h.1
def noneI : Int := 1152921504606846976
def sumT : List Int → Nat
 | [] => 0
 | c :: l => c.toNat + sumT l
theorem el_setT {l : List Int} {q j : Nat} (hq : q < l.length) (x : Int) : el (l.set q x) j = if j = q then x else el l j := by
 by_cases h : j = q
 ·subst h; rw [if_pos rfl]; simp [el, hq]
 ·rw [if_neg h]; simp [el, List.getElem?_set, Ne.symm h]
structure CostT (l : List St) (x y : List Int) (free : Bool) (z : Int) (cs : List Int) : Prop where
 len : cs.length = l.length * (x.length + 1) * (y.length + 1)
 rng : ∀ k, k < cs.length → 0 ≤ el cs k ∧ el cs k ≤ noneI
 beg : 0 ≤ z → el cs (idx x.length y.length z.toNat 0 0) = 0
 run : ∀ k, k < cs.length → el cs k < noneI → 0 ≤ z ∧ ∃ n, Run (Edge l x y free) (idx x.length y.length z.toNat 0 0) n k (el cs k).toNat
def ChpAns (P : Nat → Prop) (b : Int) : Prop := (b = noneI ∧ ∀ c, ¬ P c) ∨ ∃ c : Nat, LeastP P c ∧ b = (c : Int) ∧ c < 1152921504606846976
theorem ChpAns.wgh {P : Nat → Prop} {b : Int} (h : ChpAns P b) : WghAns P (if b = noneI then 1000000001 else if 1000000000 < b then 0 else b) (if b = noneI then 0 else if 1000000000 < b then 4 else 0) := by
 rcases h with ⟨rfl, h⟩ | ⟨c, hc, rfl, hlt⟩
 ·exact .inl ⟨h, by rw [if_pos rfl], by rw [if_pos rfl]⟩
 ·have hne : ¬ (c : Int) = noneI := by unfold noneI; omega
  rw [if_neg hne, if_neg hne]
  by_cases g : (1000000000 : Int) < c
  ·rw [if_pos g, if_pos g]
   exact .inr ⟨c, hc, .inr ⟨by omega, rfl, rfl⟩⟩
  ·rw [if_neg g, if_neg g]
   exact .inr ⟨c, hc, .inl ⟨by omega, rfl, rfl⟩⟩
theorem el_in {l : List St} {p : Nat} {a : Ar} (h : a ∈ (el l p).2) : p < l.length := by
 rcases Nat.lt_or_ge p l.length with g | g
 ·exact g
 ·have : el l p = default := by simp [el, g]
  rw [this] at h
  exact absurd h (by simp [default])
section
variable {E : Nat → Nat → Nat → Prop} {s : Nat}
theorem Run.parts {n k c : Nat} (h : Run E s n k c) : ∃ f g : Nat → Nat, f 0 = s ∧ f n = k ∧ g n = c ∧ (∀ i, i ≤ n → Run E s i (f i) (g i) ∧ ∃ d, Run E (f i) (n - i) k d ∧ g i + d = c) ∧ ∀ i j, i ≤ j → j ≤ n → g i ≤ g j := by
  induction h with
  | nil => exact ⟨fun _ => s, fun _ => 0, rfl, rfl, rfl, fun i hi => ⟨by rw [show i = 0 by omega]; exact .nil, 0, by rw [show i = 0 by omega]; exact .nil, rfl⟩, fun _ _ _ _ => Nat.le_refl _⟩
  | step h e ih =>
    rename_i n k c w j
    obtain ⟨f, g, f0, fn, gn, hf, hg⟩ := ih
    refine ⟨fun i => if i ≤ n then f i else j, fun i => if i ≤ n then g i else c + w, by simp [f0], if_neg (by omega), if_neg (by omega), fun i hi => ?_, fun a b hab hb => ?_⟩
    · by_cases q : i ≤ n
      · simp only [q, if_true]
        obtain ⟨h1, d, h2, h3⟩ := hf i q
        refine ⟨h1, d + w, ?_, by omega⟩
        have := h2.step e
        rwa [show n - i + 1 = n + 1 - i by omega] at this
      · obtain rfl : i = n + 1 := by omega
        simp only [q, if_false]
        exact ⟨h.step e, 0, by rw [Nat.sub_self]; exact .nil, by omega⟩
    · simp only
      by_cases qb : b ≤ n
      · rw [if_pos qb, if_pos (by omega)]; exact hg a b hab qb
      · rw [if_neg qb]
        by_cases qa : a ≤ n
        · rw [if_pos qa]
          have := hg a n qa (Nat.le_refl _)
          omega
        · rw [if_neg qa]; omega
theorem Run.cheap {N : Nat} (hs : s < N) (hE : ∀ k w j, E k w j → j < N) : ∀ {n k c : Nat}, Run E s n k c → ∃ m d, m < N ∧ d ≤ c ∧ Run E s m k d := by
  have key : ∀ b n k c, n < b → Run E s n k c → ∃ m d, m < N ∧ d ≤ c ∧ Run E s m k d := by
    intro b
    induction b with
    | zero => intro n k c hn; omega
    | succ b ih =>
      intro n k c hn h
      by_cases g : n < N
      · exact ⟨n, c, g, Nat.le_refl _, h⟩
      · obtain ⟨f, gg, f0, fn, gn, hf, hg⟩ := h.parts
        have hin : ∀ i, i ≤ n → f i < N := fun i hi => by
          have h1 := (hf i hi).1
          generalize gg i = y2 at h1
          generalize f i = y at h1
          cases h1 with
          | nil => exact hs
          | step _ e => exact hE _ _ _ e
        obtain ⟨i, j, hij, hj, e⟩ := twice hin (by omega)
        have h1 := (hf i (by omega)).1
        obtain ⟨_, d', h2, h3⟩ := hf j hj
        rw [← e] at h2
        have h4 := hg i j (by omega) hj
        obtain ⟨m, d, hm, hd, hr⟩ := ih _ _ _ (by omega) (h1.trans h2)
        exact ⟨m, d, hm, by omega, hr⟩
  exact fun {n k c} h => key (n + 1) n k c (by omega) h
theorem Run.head {n k c : Nat} (h : Run E s (n + 1) k c) : ∃ j w c', E s w j ∧ Run E j n k c' ∧ c = w + c' := by
  have key : ∀ {m k c}, Run E s m k c → ∀ n, m = n + 1 → ∃ j w c', E s w j ∧ Run E j n k c' ∧ c = w + c' := by
    intro m k c h
    induction h with
    | nil => intro n hn; omega
    | step h e ih =>
      rename_i m k c w j
      intro n hn
      obtain rfl : m = n := by omega
      cases m with
      | zero =>
        cases h with
        | nil => exact ⟨j, w, 0, e, .nil, by omega⟩
      | succ m =>
        obtain ⟨j', w', c', e', h', rfl⟩ := ih m rfl
        exact ⟨j', w', c' + w, e', h'.step e, by omega⟩
  exact key h n rfl
theorem Run.first {j w n k c : Nat} (e : E s w j) (h : Run E j n k c) : Run E s (n + 1) k (w + c) := by
 have h1 : Run E s 1 j (0 + w) := Run.nil.step e
 have := h1.trans h
 rwa [show 1 + n = n + 1 by omega, Nat.zero_add] at this
end
def ArcE (l : List St) (k w j : Nat) : Prop := ∃ a ∈ (el l k).2, a.2.2.2 = (j : Int) ∧ w = a.2.2.1.toNat
def FarC (z : Int) (l : List St) (q c : Nat) : Prop := 0 ≤ z ∧ ∃ n, Run (ArcE l) z.toNat n q c
def EndC (l : List St) (q c : Nat) : Prop := ∃ n p d, Run (ArcE l) q n p d ∧ p < l.length ∧ (el l p).1 ≠ 1000000001 ∧ c = d + (el l p).1.toNat
structure FarT (z : Int) (l : List St) (cs : List Int) : Prop where
 len : cs.length = l.length
 rng : ∀ q, q < l.length → 0 ≤ el cs q ∧ el cs q ≤ noneI
 run : ∀ q, q < l.length → el cs q < noneI → FarC z l q (el cs q).toNat
structure EndT (l : List St) (cs : List Int) : Prop where
 len : cs.length = l.length
 rng : ∀ q, q < l.length → 0 ≤ el cs q ∧ el cs q ≤ noneI
 run : ∀ q, q < l.length → el cs q < noneI → EndC l q (el cs q).toNat
def FarLe (z : Int) (l : List St) (k : Nat) (cs : List Int) : Prop := ∀ n q c, n ≤ k → 0 ≤ z → Run (ArcE l) z.toNat n q c → el cs q ≤ (c : Int)
def EndLe (l : List St) (k : Nat) (cs : List Int) : Prop := ∀ n q p d, n ≤ k → Run (ArcE l) q n p d → p < l.length → (el l p).1 ≠ 1000000001 → el cs q ≤ (d : Int) + (el l p).1
def EndTo (l : List St) (k q : Nat) (cs : List Int) : Prop := EndLe l k cs ∧ ∀ n q' w j p d, n ≤ k → q' < q → ArcE l q' w j → Run (ArcE l) j n p d → p < l.length → (el l p).1 ≠ 1000000001 → el cs q' ≤ (w : Int) + (d : Int) + (el l p).1
theorem arcE_in {l : List St} {k w j : Nat} (h : ArcE l k w j) : k < l.length := by
 obtain ⟨a, ha, _⟩ := h
 exact el_in ha
theorem EndTo.less {l : List St} {k q : Nat} {cs ds : List Int} (h : EndTo l k q cs) (hd : ∀ j, el ds j ≤ el cs j) : EndTo l k q ds := ⟨fun n j p d h1 h2 h3 h4 => Int.le_trans (hd j) (h.1 n j p d h1 h2 h3 h4), fun n q' w j p d h1 h2 h3 h4 h5 h6 => Int.le_trans (hd q') (h.2 n q' w j p d h1 h2 h3 h4 h5 h6)⟩
theorem EndTo.round {l : List St} {k : Nat} {cs : List Int} (h : EndTo l k l.length cs) : EndTo l (k + 1) 0 cs := by
 refine ⟨fun n q p d hn hr hp hf => ?_, fun n q' w j p d _ hq => absurd hq (by omega)⟩
 by_cases g : n ≤ k
 ·exact h.1 n q p d g hr hp hf
 ·obtain rfl : n = k + 1 := by omega
  obtain ⟨j, w, c', e, hr', rfl⟩ := hr.head
  have := h.2 k q w j p c' (Nat.le_refl _) (arcE_in e) e hr' hp hf
  push_cast
  exact this
theorem EndTo.next {l : List St} {k q : Nat} {cs : List Int} (h : EndTo l k q cs) (hd : ∀ w j, ArcE l q w j → el cs j < noneI → el cs q ≤ el cs j + (w : Int)) (hb : ∀ n j p d, n ≤ k → Run (ArcE l) j n p d → p < l.length → (el l p).1 ≠ 1000000001 → el cs j < noneI) : EndTo l k (q + 1) cs := by
 refine ⟨h.1, fun n q' w j p d hn' hq e hr hp hf => ?_⟩
 by_cases g : q' < q
 ·exact h.2 n q' w j p d hn' g e hr hp hf
 ·obtain rfl : q' = q := by omega
  have h1 := hd w j e (hb n j p d hn' hr hp hf)
  have h2 := h.1 n j p d hn' hr hp hf
  omega
end Go.Proofs.Ytobhjhjfannnnaa.Pl
