/- append at a row of the call's own: where the row lies behind it; worlds that differ in one row. -/
import Derived.Test.YtfpibdaedfilaaaGad
import Derived.Test.YtfpibdaedfilaaaGab
import Derived.Test.YtfpibdaedfilaaaGaa
namespace Go.Proofs.Ytfpibdaedfilaaa.Wt
open Go.ChangeShapes Go.WideShapes Go.ChangeAt Go.RowKit
open Go.Proofs.Ytfpibdaedfilaaa.Pl
set_option linter.unusedVariables false
def Near (w : World) (r : Option Nat) (v : Value) : Prop := v.ownBlock = r ∨ ∃ b, v.ownBlock = some b ∧ w.heap.size ≤ b
theorem Near.grown {w W W' : World} {r : Option Nat} {v : Value} (hn : Near w r v) (h : w.grownBy W r) (hg : W.grownBy W' v.ownBlock) : w.grownBy W' r := by
 refine ⟨hg.os.trans h.os, hg.tape.trans h.tape, hg.output.trans h.output, Nat.le_trans h.size hg.size, fun k hk hne => ?_⟩
 refine (hg.block k (Nat.lt_of_lt_of_le hk h.size) ?_).trans (h.block k hk hne)
 rcases hn with e | ⟨b, e, hb⟩
 ·rw [e]; exact hne
 ·rw [e]; intro e2; simp at e2; omega
theorem Near.next {w W : World} {r : Option Nat} {v v' : Value} (hn : Near w r v) (h : w.grownBy W r) (hs : Near W v.ownBlock v') : Near w r v' := by
 rcases hs with e | ⟨b, e, hb⟩
 ·rcases hn with e2 | ⟨b, e2, hb⟩
  ·exact .inl (e.trans e2)
  ·exact .inr ⟨b, e.trans e2, hb⟩
 ·exact .inr ⟨b, e, Nat.le_trans h.size hb⟩
theorem gTrans {a b c : World} {r : Option Nat} (h : a.grownBy b r) (k : b.grownBy c r) : a.grownBy c r := ⟨k.os.trans h.os, k.tape.trans h.tape, k.output.trans h.output, Nat.le_trans h.size k.size, fun i hi hne => (k.block i (Nat.lt_of_lt_of_le hi h.size) hne).trans (h.block i hi hne)⟩
theorem gNew {a b : World} {r : Option Nat} (hb : Below a.heap.size a b) : a.grownBy b r := ⟨hb.os, hb.tape, hb.output, hb.size, fun k hk _ => hb.block k hk⟩
theorem gSet (w : World) (b o : Nat) (v : Value) : w.grownBy (w.setCell ⟨b, o, none⟩ v) (some b) := ⟨rfl, rfl, rfl, by simp [World.setCell], fun k _ hne => Below.heap_setCell w _ _ k (by intro e; exact hne (by rw [e]))⟩
theorem gSetNew {a b : World} {r : Option Nat} (h : a.grownBy b r) {g : Nat} (hg : a.heap.size ≤ g) (o : Nat) (v : Value) : a.grownBy (b.setCell ⟨g, o, none⟩ v) r := ⟨h.os, h.tape, h.output, by simp [World.setCell]; exact h.size, fun k hk hne => (Below.heap_setCell b _ _ k (by show k ≠ g; omega)).trans (h.block k hk hne)⟩
theorem gBelow {a b : World} {r : Option Nat} {base : Nat} (h : a.grownBy b r) (hr : ∀ k, r = some k → base ≤ k) (hs : base ≤ a.heap.size) : Below base a b := (Below.refl _ _).grown h hs hr
theorem run_append_spot {α : Type} [Inhabited α] {k : Nat} {enc : α → List Value} {P : Program} {w : World} (hk : ∀ x, (enc x).length = k) (hk0 : 0 < k) (h1c : ∀ x, ∀ u ∈ enc x, u.oneCell' = true) (t ty : TypeId)
  (base : Nat) (e : TypeId) (i : TypeInfo) (z : Value) (bytes : Nat) (ht : P.underlying t = some (.slice e)) (hi : P.info? e = some i) (hz : i.zero = some z)
  (hsize : i.size = k) (hby : i.bytes = bytes) (hzs : z.cells.size = k)
  (v : Value) (n : Nat) (ms : List Value) (hown : w.ownsRow base e k v n ms) (vx : Value) (ns : List α) (hX : Row k enc w vx ns)
  (h63 : n + ns.length ≤ maxLen) (hbytes : (n + ns.length) * bytes ≤ 140737488355328) (hbase : base ≤ w.heap.size) :
  ∃ v' w', (Builtin.append_ #[t, t] ty #[v, vx]).run P w = .ok v' w' ∧ w'.ownsRow base e k v' (n + ns.length) (ms ++ ns.flatMap enc) ∧ w.grownBy w' v.ownBlock ∧ Near w v.ownBlock v' := by
 obtain ⟨v', w', hr, h2, h3⟩ := run_append_rows hk hk0 h1c t ty base e i z bytes ht hi hz hsize hby hzs v n ms hown vx ns hX h63 hbytes hbase
 refine ⟨v', w', hr, h2, h3, ?_⟩
 have hX0 := hX
 rcases hX with ⟨hv, hzs0⟩ | ⟨ad, cap, hv, hc⟩
 ·subst hv
  have h := run_append_owned_none (P := P) (w := w) base t ty e i k ht hi v n ms hown
  rw [hr] at h
  simp only [Result.ok.injEq] at h
  rw [h.1]
  exact .inl rfl
 ·have hown0 := hown
  rcases hown.2 with ⟨rfl, rfl⟩ | ⟨g, cap', cur, rfl, hbg, hg, hnc, hcm, hcs, htake⟩
  ·have hms : ms = [] := List.eq_nil_of_length_eq_zero (by simpa using hown.1)
   subst hms
   obtain ⟨v2, w2, hr2, h22, _⟩ := run_append_rows (w := w) hk hk0 h1c t ty w.heap.size e i z bytes ht hi hz hsize hby hzs (.slice none 0 0) 0 [] (World.ownsRow_nil _ _ _ _) vx ns hX0 h63 hbytes (Nat.le_refl _)
   rw [hr] at hr2
   simp only [Result.ok.injEq] at hr2
   rw [hr2.1]
   rcases h22.2 with ⟨rfl, _⟩ | ⟨g, c, cu, rfl, hb, _⟩
   ·exact .inl rfl
   ·exact .inr ⟨g, rfl, hb⟩
  ·subst hv
   subst hsize
   by_cases hroom : n + ns.length ≤ cap'
   ·have hl : (ns.flatMap enc).length = ns.length * i.size := flat_length hk ns
    have h := run_append_room (P := P) w t ty e i ht hi g n cap' cur hg ad ns.length cap (ns.flatMap enc) hl (row_news hk hk0 hc) (by
     intro u hu
     simp only [List.mem_flatMap] at hu
     obtain ⟨y, _, hy⟩ := hu
     exact h1c y u hy) hroom (by rw [hl, hcs, ← Nat.add_mul]; exact Nat.mul_le_mul_right _ hroom)
    rw [hr] at h
    simp only [Result.ok.injEq] at h
    rw [h.1]
    exact .inl rfl
   ·have h := run_append_grow (P := P) w t ty e i z ht hi hz ⟨g, 0, none⟩ n cap' ms hown.1 (hown.cells (g := g) rfl) ad ns.length cap (ns.flatMap enc) (flat_length hk ns) (row_news hk hk0 hc) (by omega) (by unfold maxLen at h63; omega) (by rw [hby]; exact growslice_fits (by omega) hbytes)
    rw [hr] at h
    simp only [Result.ok.injEq] at h
    rw [h.1]
    exact .inr ⟨_, rfl, Nat.le_refl _⟩
theorem wpList_append_spot {α : Type} [Inhabited α] {k : Nat} {enc : α → List Value} {P : Program} {w : World} {ops : Array Oper} {rest : List Oper} {o : Oper} {a : Act} {Q : Exit → Act → World → Prop} (hk : ∀ x, (enc x).length = k) (hk0 : 0 < k) (h1c : ∀ x, ∀ u ∈ enc x, u.oneCell' = true) (hgd : o.guard = none) (s x : Operand) (t : TypeId)
  (ho : o.op = .call { callee := .builtin .append, args := #[s, x], argTypes := #[t, t] })
  (base : Nat) (e : TypeId) (i : TypeInfo) (z : Value) (bytes : Nat) (ht : P.underlying t = some (.slice e)) (hi : P.info? e = some i) (hz : i.zero = some z)
  (hsize : i.size = k) (hby : i.bytes = bytes) (hzs : z.cells.size = k)
  (v : Value) (n : Nat) (ms : List Value) (hs : a.eval s = v) (hown : w.ownsRow base e k v n ms)
  (vx : Value) (ns : List α) (hx : a.eval x = vx) (hX : Row k enc w vx ns)
  (h63 : n + ns.length ≤ maxLen) (hbytes : (n + ns.length) * bytes ≤ 140737488355328) (hbase : base ≤ w.heap.size)
  (h : ∀ v' w', w'.ownsRow base e k v' (n + ns.length) (ms ++ ns.flatMap enc) → w.grownBy w' v.ownBlock → Near w v.ownBlock v' → wpList P ops Q rest (a.put o.dst v') w') : wpList P ops Q (o :: rest) a w := by
 obtain ⟨v', w', hr, h2, h3, h4⟩ := run_append_spot hk hk0 h1c t o.type base e i z bytes ht hi hz hsize hby hzs v n ms hown vx ns hX h63 hbytes hbase
 exact wpListAppendRun hgd s x t ho hs hx hr (h v' w' h2 h3 h4)
theorem wrapI {n : Int} (h0 : -9223372036854775808 ≤ n) (h1 : n ≤ 9223372036854775807) : IntKind.i64.wrap n = n := by
 have h64 : IntKind.i64.wrap n = if n % 18446744073709551616 ≥ 9223372036854775808 then n % 18446744073709551616 - 18446744073709551616 else n % 18446744073709551616 := by
  simp [IntKind.wrap, IntKind.bits, IntKind.signed]
 rw [h64]
 split <;> omega
theorem own_ne {w : World} {base : Nat} {e t : TypeId} {s : Nat} {v : Value} {n : Nat} {xs : List Value} (h : w.ownsRow base e s v n xs) {b : Nat} {cs : Array Value} (hb : Blk w b cs t) (hne : e ≠ t) : some b ≠ v.ownBlock := by
 rcases h.2 with ⟨rfl, _⟩ | ⟨g, cap', cur, rfl, hbg, hg, _⟩
 ·simp [Value.ownBlock]
 ·simp only [Value.ownBlock]
  intro e2
  simp at e2
  subst e2
  unfold Blk at hb
  rw [hg] at hb
  simp at hb
  exact hne hb.2
end Go.Proofs.Ytfpibdaedfilaaa.Wt
namespace Go.Proofs.Ytfpibdaedfilaaa.Wt
open Go.ChangeShapes Go.WideShapes Go.ChangeAt Go.RowKit
open Go.Proofs.Ytfpibdaedfilaaa.Pl
set_option linter.unusedVariables false
set_option linter.unusedSimpArgs false
theorem run_pushG {W w1 : World} (s : St) (l : List St) (va vo : Value) (base : Nat)
  (hW : W.heap = w1.heap.push (.cells #[.int .i64 s.1, va] 56)) (hos : W.os = w1.os) (htp : W.tape = w1.tape) (hou : W.output = w1.output)
  (hown : OwnSts w1 base vo l) (hva : w1.ownsRow base 58 4 va s.2.length (s.2.flatMap encA)) (hl : (l.length + 1) * 32 ≤ 140737488355328) (hbase : base ≤ w1.heap.size) :
  ∃ v3 w3, (Builtin.append_ #[25, 25] 25 #[vo, .slice (some ⟨w1.heap.size, 0, none⟩) 1 1]).run Try.prog W = .ok v3 w3 ∧ OwnSts w3 base v3 (l ++ [s]) ∧ Below base w1 w3 ∧ W.grownBy w3 vo.ownBlock := by
 obtain ⟨v3, w3, hr, h1, h2⟩ := run_push s l va vo base hW hos htp hou hown hva hl hbase
 refine ⟨v3, w3, hr, h1, h2, ?_⟩
 obtain ⟨i1, hi1, hy0, hy1, hy2⟩ := info_parts infoState
 obtain ⟨vs, q1, q2, q3⟩ := hown
 have e1 : ∀ k, k < w1.heap.size → W.heap[k]? = w1.heap[k]? := fun k hk => by rw [hW, Array.getElem?_push_lt hk, Array.getElem?_eq_getElem hk]
 have e0 : W.heap[w1.heap.size]? = some (.cells #[.int .i64 s.1, va] 56 (0, 0)) := by rw [hW]; simp
 have es : W.heap.size = w1.heap.size + 1 := by rw [hW]; simp
 have hg : w1.grownBy W none := ⟨hos, htp, hou, by omega, fun k hk _ => e1 k hk⟩
 have hvo := q1.kept hg (by rcases vo.ownBlock with _ | _ <;> simp)
 obtain ⟨v4, w4, hr4, _, hg4, _⟩ := run_append_own (P := Try.prog) W base 25 25 56 i1 _ 2 32 Try.underlying25 hi1 hy0 hy1 hy2 rfl (by omega) vo vs.length (vs.flatMap encS) hvo ⟨w1.heap.size, 0, none⟩ 1 1 [.int .i64 s.1, va] rfl (World.news_of_block (cs := #[.int .i64 s.1, va]) e0) (by
  intro u hu
  simp at hu
  rcases hu with rfl | rfl
  ·rfl
  ·exact own_one hva) (by rw [q2]; unfold maxLen; omega) (by rw [q2]; exact hl) (by omega)
 rw [hr] at hr4
 simp only [Result.ok.injEq] at hr4
 rw [hr4.2]
 exact hg4
def OwnArcs (w : World) (base : Nat) (v : Value) (ar : List Ar) : Prop := w.ownsRow base 58 4 v ar.length (ar.flatMap encA)
theorem hidP {p : Prop} (h : p) : Hid p := h
theorem mach_zeroR (w : World) : Mach w (.agg #[.int .i64 0, .slice none 0 0]) (0, []) := ⟨_, rfl, (OwnSts.nil w 0).sts⟩
theorem right_states {m : Mc} (hr : faultM m = 0) : ∀ j, j < m.2.length → finB (el m.2 j).1 = true ∧ (el m.2 j).2.length ≤ 400 ∧ ∀ p ∈ (el m.2 j).2, 0 ≤ p.2.2.2 ∧ p.2.2.2 ≤ 1000 := fun j hj => by
 have h400 := (right_size (z := m.1) (l := m.2) hr).2
 have h60 := (right_size (z := m.1) (l := m.2) hr).1
 have h1 := arcN_take hj
 have h2 := arcN_takeR m.2 (j + 1)
 have h3 := (right_parts hr).2 (el m.2 j) (el_mem hj)
 refine ⟨stB_fin h3, by omega, fun p hp => ?_⟩
 simp only [stB, Bool.and_eq_true, List.all_eq_true] at h3
 have h4 := h3.2 p hp
 simp only [arcB, inB, Bool.and_eq_true, decide_eq_true_eq] at h4
 omega
end Go.Proofs.Ytfpibdaedfilaaa.Wt
namespace Go.Proofs.Ytfpibdaedfilaaa.Pl
def leadsB (l : List St) (p q : Nat) : Bool := (el l p).2.any fun a => decide (a.2.2.2 = (q : Int))
def FreeQ (l : List St) (out : List Int) (q : Nat) : Prop := (q : Int) ∉ out ∧ ∀ p, p < l.length → leadsB l p q = true → (p : Int) ∈ out
def NextQ (l : List St) (out : List Int) (x : Int) : Prop := ∃ q : Nat, x = (q : Int) ∧ q < l.length ∧ FreeQ l out q ∧ ∀ p, p < q → ¬ FreeQ l out p
theorem NextQ.one {l : List St} {out : List Int} {x y : Int} (h : NextQ l out x) (k : NextQ l out y) : x = y := by
 obtain ⟨q, rfl, hq, h1, h2⟩ := h
 obtain ⟨p, rfl, hp, k1, k2⟩ := k
 rcases Nat.lt_trichotomy q p with e | e | e
 ·exact absurd h1 (k2 q e)
 ·rw [e]
 ·exact absurd k1 (h2 p e)
def StepsL (l : List St) (out : List Int) : Prop := ∀ i, i < out.length → NextQ l (out.take i) (el out i)
theorem StepsL.nil (l : List St) : StepsL l [] := fun _ hi => absurd hi (Nat.not_lt_zero _)
theorem StepsL.snoc {l : List St} {out : List Int} {x : Int} (h : StepsL l out) (hx : NextQ l out x) : StepsL l (out ++ [x]) := by
 intro i hi
 by_cases e : i < out.length
 ·rw [el_left e, List.take_append_of_le_length (by omega)]
  exact h i e
 ·have : i = out.length := by simp at hi; omega
  subst this
  rw [el_last, List.take_left]
  exact hx
theorem StepsL.take {l : List St} {a b : List Int} (ha : StepsL l a) (hb : StepsL l b) : ∀ i, i ≤ a.length → i ≤ b.length → a.take i = b.take i := by
  intro i
  induction i with
  | zero => simp
  | succ i ih =>
    intro h1 h2
    have h3 := ih (by omega) (by omega)
    have h4 := ha i (by omega)
    have h5 := hb i (by omega)
    rw [← h3] at h5
    rw [take_el (by omega), take_el (by omega), h3, h4.one h5]
def OrderL (l : List St) (out : List Int) : Prop := StepsL l out ∧ out.length = l.length
def CycleL (l : List St) : Prop := ∃ out, StepsL l out ∧ out.length < l.length ∧ ∀ q, q < l.length → ¬ FreeQ l out q
theorem OrderL.noCycle {l : List St} {a : List Int} (ha : OrderL l a) : ¬ CycleL l := by
 rintro ⟨b, hb, hl, hs⟩
 have h1 := ha.1.take hb b.length (by rw [ha.2]; omega) (Nat.le_refl _)
 rw [List.take_length] at h1
 obtain ⟨q, _, hq, hf, _⟩ := ha.1 b.length (by rw [ha.2]; exact hl)
 rw [h1] at hf
 exact hs q hq hf
theorem StepsL.mem {l : List St} {out : List Int} (h : StepsL l out) {x : Int} (hx : x ∈ out) : ∃ q : Nat, x = (q : Int) ∧ q < l.length := by
 obtain ⟨i, hi, rfl⟩ := mem_el hx
 obtain ⟨q, h1, h2, _⟩ := h i hi
 exact ⟨q, h1, h2⟩
theorem StepsL.nodup {l : List St} {out : List Int} (h : StepsL l out) : out.Nodup := by
 rw [List.nodup_iff_pairwise_ne, List.pairwise_iff_getElem]
 intro i j hi hj hij
 obtain ⟨q, h1, _, h2, _⟩ := h j hj
 rw [el_get hj] at h1
 rw [h1]
 intro e
 refine h2.1 (e ▸ ?_)
 have : (out.take j)[i]'(by rw [List.length_take]; omega) = out[i] := List.getElem_take
 rw [← this]
 exact List.getElem_mem _
theorem pigeon : ∀ (n : Nat) (l : List Nat), l.Nodup → (∀ x ∈ l, x < n) → l.length ≤ n := by
  intro n
  induction n with
  | zero =>
    intro l _ h
    cases l with
    | nil => simp
    | cons a l => exact absurd (h a (by simp)) (Nat.not_lt_zero _)
  | succ n ih =>
    intro l hn h
    have h1 := ih (l.erase n) (hn.erase n) (fun x hx => by
      have h2 := h x (List.mem_of_mem_erase hx)
      have h3 : x ≠ n := fun e => by subst e; exact hn.not_mem_erase hx
      omega)
    rw [List.length_erase] at h1
    split at h1 <;> omega
theorem pigeon_all {n : Nat} {l : List Nat} (hn : l.Nodup) (h : ∀ x ∈ l, x < n) (hl : l.length = n) {q : Nat} (hq : q < n) : q ∈ l := by
 by_cases e : q ∈ l
 ·exact e
 ·have := pigeon n (q :: l) (List.nodup_cons.2 ⟨e, hn⟩) (fun x hx => by
   rcases List.mem_cons.1 hx with rfl | hx
   ·exact hq
   ·exact h x hx)
  simp at this
  omega
theorem OrderL.all {l : List St} {out : List Int} (h : OrderL l out) {q : Nat} (hq : q < l.length) : (q : Int) ∈ out := by
 have hs : ∀ x ∈ out.map Int.toNat, x < l.length := by
  intro x hx
  obtain ⟨y, hy, rfl⟩ := List.mem_map.1 hx
  obtain ⟨p, rfl, hp⟩ := h.1.mem hy
  simpa using hp
 have hn : (out.map Int.toNat).Nodup := by
  rw [List.nodup_iff_pairwise_ne, List.pairwise_map]
  have := h.1.nodup
  rw [List.nodup_iff_pairwise_ne] at this
  refine List.Pairwise.imp_of_mem ?_ this
  intro a b ha hb hab e
  obtain ⟨p, rfl, _⟩ := h.1.mem ha
  obtain ⟨p', rfl, _⟩ := h.1.mem hb
  simp at e
  exact hab (by rw [e])
 have : q ∈ out.map Int.toNat := pigeon_all hn hs (by simp [h.2]) hq
 obtain ⟨y, hy, e⟩ := List.mem_map.1 this
 obtain ⟨p, rfl, _⟩ := h.1.mem hy
 simp at e
 rw [← e]; exact hy
def baseN (f : Int) : Nat := if f = 1000000001 then 0 else 1
def sumF (f : Nat → Nat) : List Ar → Nat
 | [] => 0
 | a :: l => f a.2.2.2.toNat + sumF f l
theorem sumF_append (f : Nat → Nat) (a b : List Ar) : sumF f (a ++ b) = sumF f a + sumF f b := by
 induction a with
 | nil => simp [sumF]
 | cons x a ih => simp [sumF, ih]; omega
theorem sumF_congr {f g : Nat → Nat} {ar : List Ar} (h : ∀ a ∈ ar, f a.2.2.2.toNat = g a.2.2.2.toNat) : sumF f ar = sumF g ar := by
 induction ar with
 | nil => rfl
 | cons a l ih => rw [sumF, sumF, h a (by simp), ih (fun b hb => h b (by simp [hb]))]
def cntF (l : List St) : List Int → Nat → Nat
 | [] => fun _ => 0
 | x :: out => fun p => if p = x.toNat then baseN (el l p).1 + sumF (cntF l out) (el l p).2 else cntF l out p
def CntEq (l : List St) (f : Nat → Nat) : Prop := ∀ q, q < l.length → f q = baseN (el l q).1 + sumF f (el l q).2
def capN (k : Nat) : Nat := if k ≤ 1000000001 then k else 1000000001
theorem capN_add (a b : Nat) : capN (capN a + capN b) = capN (a + b) := by
 unfold capN
 split <;> split <;> split <;> (try split) <;> omega
theorem capN_le (a : Nat) : capN a ≤ 1000000001 := by unfold capN; split <;> omega
theorem capN_gt {a : Nat} : 1000000000 < capN a ↔ 1000000000 < a := by unfold capN; split <;> omega
theorem capN_eq {a : Nat} (h : a ≤ 1000000000) : capN a = a := by unfold capN; rw [if_pos (by omega)]
theorem OrderL.later {l : List St} {out : List Int} (h : OrderL l out) {i q : Nat} (hi : i < out.length) (hq : el out i = (q : Int)) {a : Ar} (ha : a ∈ (el l q).2) {t : Nat} (ht : a.2.2.2 = (t : Int)) (htn : t < l.length) : (t : Int) ∈ out.drop (i + 1) := by
 have hqn : q < l.length := by
  obtain ⟨p, e, hp, _⟩ := h.1 i hi
  rw [hq] at e
  omega
 obtain ⟨j, hj, hej⟩ := mem_el (h.all htn)
 obtain ⟨t', e1, _, e2, _⟩ := h.1 j hj
 rw [hej] at e1
 obtain rfl : t = t' := by omega
 have h1 := e2.2 q hqn (List.any_eq_true.2 ⟨a, ha, by simpa using ht⟩)
 obtain ⟨k, hk, hek⟩ := mem_el h1
 rw [List.length_take] at hk
 rw [el_take (by omega)] at hek
 have hki : k = i := by
  have hnd := h.1.nodup
  have := (List.getElem_inj (h₀ := (by omega : k < out.length)) (h₁ := hi) hnd).1 (by rw [← el_get, ← el_get, hek, hq])
  exact this
 have hij : i < j := by omega
 refine List.mem_iff_getElem.2 ⟨j - (i + 1), by rw [List.length_drop]; omega, ?_⟩
 rw [List.getElem_drop, ← hej, el_get hj]
 congr 1
 omega
def pathA (z : Int) (c : Nat) : Int × Int := if z < 0 then (0, 0) else if 1000000000 < c then (0, 4) else ((c : Int), 0)
def OrdAns (m : Mc) (r ec : Int) (out : List Int) : Prop := if r = 0 then ((ec = 0 ∧ OrderL m.2 out) ∨ (ec = 6 ∧ CycleL m.2 ∧ out = [])) else ec = r ∧ out = []
def PathAns (m : Mc) (r x ec : Int) : Prop := if r = 0 then ((∃ out, OrderL m.2 out ∧ pathA m.1 (cntF m.2 out m.1.toNat) = (x, ec)) ∨ (CycleL m.2 ∧ x = 0 ∧ ec = 6)) else x = 0 ∧ ec = r
theorem cnt_mem_not {l : List St} {a b : List Int} {p : Nat} (h : ∀ x ∈ a, p ≠ x.toNat) : cntF l (a ++ b) p = cntF l b p := by
  induction a with
  | nil => rfl
  | cons x a ih =>
    show (if p = x.toNat then _ else _) = _
    rw [if_neg (h x (by simp))]
    exact ih (fun y hy => h y (by simp [hy]))
theorem OrderL.ahead {l : List St} {out : List Int} (h : OrderL l out) {i : Nat} {t : Nat} (ht : (t : Int) ∈ out.drop i) : ∀ x ∈ out.take i, t ≠ x.toNat := by
 intro x hx e
 obtain ⟨q, rfl, _⟩ := h.1.mem (List.mem_of_mem_take hx)
 have hnd := h.1.nodup
 rw [← List.take_append_drop i out, List.nodup_append] at hnd
 simp at e
 subst e
 exact hnd.2.2 _ hx _ ht rfl
theorem OrderL.cnt {l : List St} {out : List Int} (h : OrderL l out) (hto : ∀ q, q < l.length → ∀ a ∈ (el l q).2, ∃ t : Nat, a.2.2.2 = (t : Int) ∧ t < l.length) : CntEq l (cntF l out) := by
 intro q hq
 obtain ⟨i, hi, he⟩ := mem_el (h.all hq)
 have hd : out.drop i = (q : Int) :: out.drop (i + 1) := by rw [List.drop_eq_getElem_cons hi, ← el_get hi, he]
 have h1 : cntF l out q = cntF l (out.drop i) q := by
  conv => lhs; rw [← List.take_append_drop i out]
  exact cnt_mem_not (h.ahead (i := i) (by rw [hd]; simp))
 rw [h1, hd]
 show (if q = ((q : Int)).toNat then _ else _) = _
 rw [if_pos (by simp)]
 congr 1
 refine sumF_congr fun a ha => ?_
 obtain ⟨t, ht, htn⟩ := hto q hq a ha
 have h2 := h.later hi he ha ht htn
 rw [ht, Int.toNat_natCast]
 conv => rhs; rw [← List.take_append_drop (i + 1) out]
 exact (cnt_mem_not (h.ahead h2)).symm
theorem OrderL.ind {l : List St} {out : List Int} (h : OrderL l out) (hto : ∀ q, q < l.length → ∀ a ∈ (el l q).2, ∃ t : Nat, a.2.2.2 = (t : Int) ∧ t < l.length) {P : Nat → Prop} (step : ∀ q, q < l.length → (∀ a ∈ (el l q).2, P a.2.2.2.toNat) → P q) : ∀ q, q < l.length → P q := by
  have key : ∀ k i, i < out.length → out.length - i ≤ k → P (el out i).toNat := by
    intro k
    induction k with
    | zero => intro i hi hk; omega
    | succ k ih =>
      intro i hi hk
      obtain ⟨q, he, hq, _⟩ := h.1 i hi
      rw [he, Int.toNat_natCast]
      refine step q hq fun a ha => ?_
      obtain ⟨t, ht, htn⟩ := hto q hq a ha
      have h2 := h.later hi he ha ht htn
      obtain ⟨j, hj, hej⟩ := List.mem_iff_getElem.1 h2
      rw [List.length_drop] at hj
      rw [List.getElem_drop] at hej
      have h3 := ih (i + 1 + j) (by omega) (by omega)
      rw [el_get (by omega), hej] at h3
      rw [ht]; exact h3
  intro q hq
  obtain ⟨i, hi, he⟩ := mem_el (h.all hq)
  have := key out.length i hi (by omega)
  rw [he, Int.toNat_natCast] at this
  exact this
theorem cnt_one {l : List St} {out : List Int} (h : OrderL l out) (hto : ∀ q, q < l.length → ∀ a ∈ (el l q).2, ∃ t : Nat, a.2.2.2 = (t : Int) ∧ t < l.length) {f g : Nat → Nat} (hf : CntEq l f) (hg : CntEq l g) : ∀ q, q < l.length → f q = g q :=
 h.ind hto fun q hq ih => by rw [hf q hq, hg q hq, sumF_congr ih]
def Fwd (l : List St) : Prop := ∀ q, q < l.length → ∀ a ∈ (el l q).2, ∃ t : Nat, a.2.2.2 = (t : Int) ∧ q < t ∧ t < l.length
theorem Fwd.to {l : List St} (h : Fwd l) : ∀ q, q < l.length → ∀ a ∈ (el l q).2, ∃ t : Nat, a.2.2.2 = (t : Int) ∧ t < l.length := fun q hq a ha => by
 obtain ⟨t, h1, _, h2⟩ := h q hq a ha
 exact ⟨t, h1, h2⟩
def numsL (n : Nat) : List Int := (List.range n).map fun q : Nat => (q : Int)
theorem numsL_length (n : Nat) : (numsL n).length = n := by simp [numsL]
theorem numsL_el {n q : Nat} (h : q < n) : el (numsL n) q = (q : Int) := el_range_map _ h
theorem numsL_mem {n q : Nat} : (q : Int) ∈ numsL n ↔ q < n := by
 unfold numsL
 rw [List.mem_map]
 constructor
 ·rintro ⟨p, hp, e⟩
  have := List.mem_range.1 hp
  omega
 ·intro h; exact ⟨q, List.mem_range.2 h, rfl⟩
theorem numsL_take {n i : Nat} (h : i ≤ n) : (numsL n).take i = numsL i := by
 apply el_ext (by rw [List.length_take, numsL_length, numsL_length]; omega)
 intro j hj
 rw [List.length_take, numsL_length] at hj
 rw [el_take (by omega), numsL_el (by omega), numsL_el (by omega)]
theorem Fwd.order {l : List St} (h : Fwd l) : OrderL l (numsL l.length) := by
 refine ⟨fun i hi => ?_, numsL_length _⟩
 rw [numsL_length] at hi
 rw [numsL_el hi, numsL_take (by omega)]
 refine ⟨i, rfl, hi, ⟨fun h9 => absurd (numsL_mem.1 h9) (Nat.lt_irrefl _), fun p hp hl => ?_⟩, fun p hp hf => hf.1 (numsL_mem.2 hp)⟩
 obtain ⟨a, ha, he⟩ := List.any_eq_true.1 hl
 obtain ⟨t, h1, h2, _⟩ := h p hp a ha
 simp only [decide_eq_true_eq] at he
 exact numsL_mem.2 (by omega)
theorem sumF_le {f : Nat → Nat} {k : Nat} {ar : List Ar} (h : ∀ a ∈ ar, f a.2.2.2.toNat ≤ k) : sumF f ar ≤ ar.length * k := by
  induction ar with
  | nil => simp [sumF]
  | cons a l ih =>
    have h1 := h a (by simp)
    have h2 := ih (fun b hb => h b (by simp [hb]))
    simp only [sumF, List.length_cons, Nat.add_mul, Nat.one_mul]
    omega
theorem sumF_zero {f : Nat → Nat} {ar : List Ar} : sumF f ar = 0 ↔ ∀ a ∈ ar, f a.2.2.2.toNat = 0 := by
 induction ar with
 | nil => simp [sumF]
 | cons a l ih => simp [sumF, ih]
theorem cnt_bound {l : List St} {f : Nat → Nat} (h : Fwd l) (hf : CntEq l f) (h4 : ∀ q, q < l.length → (el l q).2.length ≤ 4) : ∀ k q, q < l.length → l.length - q ≤ k → f q ≤ 5 ^ k := by
  intro k
  induction k with
  | zero => intro q hq hk; omega
  | succ k ih =>
    intro q hq hk
    rw [hf q hq]
    have h1 : sumF f (el l q).2 ≤ (el l q).2.length * 5 ^ k := sumF_le (fun a ha => by
      obtain ⟨t, e, h2, h3⟩ := h q hq a ha
      rw [e, Int.toNat_natCast]
      exact ih t h3 (by omega))
    have h2 : (el l q).2.length * 5 ^ k ≤ 4 * 5 ^ k := Nat.mul_le_mul_right _ (h4 q hq)
    have h3 : 0 < 5 ^ k := Nat.pow_pos (by omega)
    have h5 : baseN (el l q).1 ≤ 1 := by unfold baseN; split <;> omega
    rw [Nat.pow_succ]
    omega
def placeL' (x : Int) : Nat → List Int → Int
 | _, [] => -1
 | i, k :: l => if k = x then (i : Int) else placeL' x (i + 1) l
def placeI (ks : List Int) (x : Int) : Int := placeL' x 0 ks
theorem placeL'_at {x : Int} {ks : List Int} {i k : Nat} (hk : k < ks.length) (h : ∀ j, j < k → el ks j ≠ x) (e : el ks k = x) : placeL' x i ks = ((i + k : Nat) : Int) := by
  induction ks generalizing i k with
  | nil => simp at hk
  | cons y l ih =>
    cases k with
    | zero => rw [el_zero] at e; simp [placeL', e]
    | succ k =>
      have h0 := h 0 (by omega)
      rw [el_zero] at h0
      rw [placeL', if_neg h0, ih (k := k) (by simpa using hk) (fun j hj => by have := h (j + 1) (by omega); rwa [el_succ] at this) (by rwa [el_succ] at e)]
      congr 1; omega
theorem placeL'_none {x : Int} {ks : List Int} {i : Nat} (h : ∀ j, j < ks.length → el ks j ≠ x) : placeL' x i ks = -1 := by
  induction ks generalizing i with
  | nil => rfl
  | cons y l ih =>
    have h0 := h 0 (by simp)
    rw [el_zero] at h0
    rw [placeL', if_neg h0]
    exact ih (fun j hj => by have := h (j + 1) (by simpa using hj); rwa [el_succ] at this)
theorem placeI_at {x : Int} {ks : List Int} {k : Nat} (hk : k < ks.length) (h : ∀ j, j < k → el ks j ≠ x) (e : el ks k = x) : placeI ks x = (k : Int) := by
 have := placeL'_at (i := 0) hk h e
 rwa [Nat.zero_add] at this
theorem placeI_none {x : Int} {ks : List Int} (h : ∀ j, j < ks.length → el ks j ≠ x) : placeI ks x = -1 := placeL'_none h
def keptL (a b : List Bool) (n : Nat) : List Int := ((List.range n).filter fun q => el a q && el b q).map fun q : Nat => (q : Int)
theorem keptL_succ (a b : List Bool) (n : Nat) : keptL a b (n + 1) = keptL a b n ++ (if (el a n && el b n) = true then [(n : Int)] else []) := by
 unfold keptL
 rw [List.range_succ, List.filter_append, List.map_append]
 cases h : (el a n && el b n) <;> simp [h]
theorem keptL_le (a b : List Bool) (n : Nat) : (keptL a b n).length ≤ n := by
 unfold keptL
 rw [List.length_map]
 exact Nat.le_trans (List.length_filter_le _ _) (by simp)
theorem keptL_mem {a b : List Bool} {n : Nat} {x : Int} (h : x ∈ keptL a b n) : ∃ q : Nat, x = (q : Int) ∧ q < n ∧ el a q = true ∧ el b q = true := by
 unfold keptL at h
 simp only [List.mem_map, List.mem_filter, List.mem_range, Bool.and_eq_true] at h
 obtain ⟨q, ⟨h1, h2, h3⟩, rfl⟩ := h
 exact ⟨q, rfl, h1, h2, h3⟩
def turnA (ks : List Int) (c : Ar) : Ar := (c.1, c.2.1, c.2.2.1, placeI ks c.2.2.2)
def trimA (ks : List Int) (l : List Ar) : List Ar := (l.map (turnA ks)).filter fun c => decide (0 ≤ c.2.2.2)
theorem trimA_take {ks : List Int} {l : List Ar} {k : Nat} (h : k < l.length) : trimA ks (l.take (k + 1)) = trimA ks (l.take k) ++ (if 0 ≤ placeI ks (el l k).2.2.2 then [turnA ks (el l k)] else []) := by
 unfold trimA
 rw [take_el h, List.map_append, List.filter_append]
 congr 1
 by_cases e : 0 ≤ placeI ks (el l k).2.2.2 <;> simp [e, turnA]
theorem trimA_le (ks : List Int) (l : List Ar) : (trimA ks l).length ≤ l.length := by
 unfold trimA
 exact Nat.le_trans (List.length_filter_le _ _) (by simp)
def trimS (l : List St) (ks : List Int) (x : Int) : St := ((el l x.toNat).1, trimA ks (el l x.toNat).2)
def trimM (z : Int) (l : List St) (ks : List Int) : Mc := (placeI ks z, ks.map (trimS l ks))
def AheadC (z : Int) (l : List St) (T : Nat → Prop) : Prop := (∀ q, q < l.length → (q : Int) = z → T q) ∧ ∀ q, q < l.length → T q → ∀ a ∈ (el l q).2, T a.2.2.2.toNat
def BackC (l : List St) (T : Nat → Prop) : Prop := (∀ q, q < l.length → (el l q).1 ≠ 1000000001 → T q) ∧ ∀ q, q < l.length → ∀ a ∈ (el l q).2, T a.2.2.2.toNat → T q
def Least (C : (Nat → Prop) → Prop) (n : Nat) (bs : List Bool) : Prop := bs.length = n ∧ C (fun q => el bs q = true) ∧ ∀ T, C T → ∀ q, q < n → el bs q = true → T q
theorem Least.one {C : (Nat → Prop) → Prop} {n : Nat} {a b : List Bool} (ha : Least C n a) (hb : Least C n b) : a = b := by
 apply el_ext (by rw [ha.1, hb.1])
 intro j hj
 have hj' : j < n := by rw [ha.1] at hj; exact hj
 have h1 := ha.2.2 _ hb.2.1 j hj'
 have h2 := hb.2.2 _ ha.2.1 j hj'
 rw [Bool.eq_iff_iff]
 exact ⟨h1, h2⟩
def leL (a b : List Bool) : Prop := a.length = b.length ∧ ∀ j, j < a.length → el a j = true → el b j = true
theorem el_setB {l : List Bool} {q j : Nat} (hq : q < l.length) : el (l.set q true) j = if j = q then true else el l j := by
 by_cases h : j = q
 ·subst h; rw [if_pos rfl, el_get (by simpa using hq)]; simp
 ·rw [if_neg h]; simp [el, List.getElem?_set_ne (Ne.symm h)]
structure Pass (C : (Nat → Prop) → Prop) (n : Nat) (b0 bs : List Bool) (chk : Prop) : Prop where
 len : bs.length = n
 le : leL b0 bs
 sound : ∀ T, C T → ∀ q, q < n → el bs q = true → T q
 chk : bs = b0 → chk
structure Rounds (C : (Nat → Prop) → Prop) (n k : Nat) (bs : List Bool) : Prop where
 len : bs.length = n
 sound : ∀ T, C T → ∀ q, q < n → el bs q = true → T q
 more : C (fun q => el bs q = true) ∨ k ≤ bs.count true
theorem el_false {n j : Nat} : el (List.replicate n false) j = false := by
 unfold el
 rw [List.getElem?_replicate]
 split <;> rfl
theorem keptL_sorted (a b : List Bool) (n : Nat) : (keptL a b n).Pairwise (· < ·) := by
 unfold keptL
 rw [List.pairwise_map]
 refine (List.Pairwise.filter _ (List.pairwise_lt_range (n := n))).imp ?_
 intro x y h
 omega
theorem keptL_iff {a b : List Bool} {n q : Nat} : (q : Int) ∈ keptL a b n ↔ q < n ∧ el a q = true ∧ el b q = true := by
 constructor
 ·intro h
  obtain ⟨p, h1, h2, h3, h4⟩ := keptL_mem h
  obtain rfl : q = p := by omega
  exact ⟨h2, h3, h4⟩
 ·rintro ⟨h1, h2, h3⟩
  unfold keptL
  simp only [List.mem_map, List.mem_filter, List.mem_range, Bool.and_eq_true]
  exact ⟨q, ⟨h1, h2, h3⟩, rfl⟩
theorem placeI_el {ks : List Int} (hp : ks.Pairwise (· < ·)) {i : Nat} (hi : i < ks.length) : placeI ks (el ks i) = (i : Int) := by
 refine placeI_at hi (fun j hj => ?_) rfl
 have := List.pairwise_iff_getElem.1 hp j i (by omega) hi hj
 rw [el_get hi, el_get (by omega)]
 omega
theorem placeI_mem {ks : List Int} (hp : ks.Pairwise (· < ·)) {x : Int} (h : x ∈ ks) : ∃ i : Nat, i < ks.length ∧ el ks i = x ∧ placeI ks x = (i : Int) := by
 obtain ⟨i, hi, rfl⟩ := mem_el h
 exact ⟨i, hi, rfl, placeI_el hp hi⟩
theorem placeI_not {ks : List Int} {x : Int} (h : x ∉ ks) : placeI ks x = -1 := placeI_none (fun _ hj e => h (e ▸ el_mem hj))
theorem placeI_nonneg {ks : List Int} (hp : ks.Pairwise (· < ·)) {x : Int} : 0 ≤ placeI ks x ↔ x ∈ ks := by
 constructor
 ·intro h
  by_cases e : x ∈ ks
  ·exact e
  ·rw [placeI_not e] at h; omega
 ·intro h
  obtain ⟨i, _, _, e⟩ := placeI_mem hp h
  rw [e]; omega
section
variable {z : Int} {l : List St} {aa bs : List Bool}
theorem trim_el {ks : List Int} {i : Nat} (hi : i < ks.length) : el (ks.map (trimS l ks)) i = ((el l (el ks i).toNat).1, trimA ks (el l (el ks i).toNat).2) := by
 rw [el_map hi]; rfl
theorem trimA_mem {ks : List Int} {ar : List Ar} {c : Ar} (h : c ∈ trimA ks ar) : ∃ d ∈ ar, c = turnA ks d ∧ 0 ≤ placeI ks d.2.2.2 := by
 unfold trimA at h
 simp only [List.mem_filter, List.mem_map, decide_eq_true_eq] at h
 obtain ⟨⟨d, hd, rfl⟩, h0⟩ := h
 exact ⟨d, hd, rfl, h0⟩
theorem trimA_in {ks : List Int} {ar : List Ar} {d : Ar} (hd : d ∈ ar) (h0 : 0 ≤ placeI ks d.2.2.2) : turnA ks d ∈ trimA ks ar := by
 unfold trimA
 simp only [List.mem_filter, List.mem_map, decide_eq_true_eq]
 exact ⟨⟨d, hd, rfl⟩, h0⟩
theorem el_true {n j : Nat} : el (List.replicate n true) j = true ↔ j < n := by
 unfold el
 rw [List.getElem?_replicate]
 split
 ·rename_i h; simp [h]
 ·rename_i h; simp [h]
theorem to_right (hf : faultM (z, l) = 0) {q : Nat} (hq : q < l.length) {d : Ar} (hd : d ∈ (el l q).2) : ∃ t : Nat, d.2.2.2 = (t : Int) ∧ t < l.length := by
 have h := List.all_eq_true.1 (right_st hf hq).2 d hd
 simp only [arcB, inB, Bool.and_eq_true, decide_eq_true_eq] at h
 exact ⟨d.2.2.2.toNat, by omega, by omega⟩
theorem trim_ahead (hf : faultM (z, l) = 0) (hA : Least (AheadC z l) l.length aa) (hB : Least (BackC l) l.length bs) (T : Nat → Prop) (hT : AheadC (placeI (keptL aa bs l.length) z) ((keptL aa bs l.length).map (trimS l (keptL aa bs l.length))) T) :
  ∀ i, i < (keptL aa bs l.length).length → T i := by
 have hp := keptL_sorted aa bs l.length
 have hk : ∀ q, q < l.length → el aa q = true → el bs q = true → ∃ i : Nat, i < (keptL aa bs l.length).length ∧ el (keptL aa bs l.length) i = (q : Int) ∧ placeI (keptL aa bs l.length) (q : Int) = (i : Int) := fun q hq h1 h2 => placeI_mem hp (keptL_iff.2 ⟨hq, h1, h2⟩)
 have key : ∀ q, q < l.length → el aa q = true → (el aa q = true ∧ (el bs q = true → T (placeI (keptL aa bs l.length) (q : Int)).toNat)) := by
  refine hA.2.2 (fun q => el aa q = true ∧ (el bs q = true → T (placeI (keptL aa bs l.length) (q : Int)).toNat)) ⟨?_, ?_⟩
  ·intro q hq hz
   have h1 := hA.2.1.1 q hq hz
   refine ⟨h1, fun h2 => ?_⟩
   obtain ⟨i, hi, _, e⟩ := hk q hq h1 h2
   rw [e]
   refine hT.1 _ (by simpa using hi) ?_
   rw [← hz, e]; simp
  ·intro q hq h9 d hd
   obtain ⟨t, ht, htn⟩ := to_right hf hq hd
   have h1 := hA.2.1.2 q hq h9.1 d hd
   rw [ht] at h1 ⊢
   simp only [Int.toNat_natCast] at h1 ⊢
   refine ⟨h1, fun h2 => ?_⟩
   have hbq : el bs q = true := hB.2.1.2 q hq d hd (by rw [ht]; simpa using h2)
   obtain ⟨i, hi, hei, e⟩ := hk q hq h9.1 hbq
   obtain ⟨j, hj, hej, e2⟩ := hk t htn h1 h2
   have h3 := h9.2 hbq
   rw [e] at h3
   have h4 := hT.2 i (by simpa using hi) (by simpa using h3) (turnA (keptL aa bs l.length) d) (by
    rw [trim_el hi, hei]
    simp only [Int.toNat_natCast]
    exact trimA_in hd (by rw [ht, e2]; omega))
   simp only [turnA] at h4
   rw [ht] at h4
   exact h4
 intro i hi
 obtain ⟨q, hq, hqn, h1, h2⟩ := keptL_mem (el_mem hi)
 have h3 := (key q hqn h1).2 h2
 rw [← hq, placeI_el hp hi] at h3
 simpa using h3
end
end Go.Proofs.Ytfpibdaedfilaaa.Pl
