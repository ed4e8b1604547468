/- The map of places that are done. -/
import Derived.Test.YtfpibdaedfilaaaEaq
import Derived.Test.YtfpibdaedfilaaaEai
import Derived.Test.YtfpibdaedfilaaaEab
import Derived.Maps.Own
import Derived.Maps.OwnSet
import Derived.Maps.Views
import Derived.WideKeyEntry
import Derived.DeepKeys3
import Derived.Laws.NewFold
namespace Go.Proofs.Ytfpibdaedfilaaa.Wt
open Go.ChangeShapes Go.WideShapes Go.ChangeAt Go.RowKit Go.Maps
open Go.Proofs.Ytfpibdaedfilaaa.Pl
set_option linter.unusedVariables false
set_option linter.unusedSimpArgs false
set_option maxRecDepth 100000 in
theorem lawPlK : Go.WideMaps.KeyLaw Try.prog 159 := Go.deep_law (m := 2) (by omega) (by kernel_rfl) (by kernel_rfl) (by kernel_rfl)
set_option maxRecDepth 100000 in
theorem lawPl : Keyed Try.prog 159 := Keyed.of_law lawPlK
def plV (p : Pt) : Value := .agg #[.int .i64 (p.1 : Int), .int .i64 (p.2.1 : Int), .int .i64 (p.2.2 : Int)]
def SmQ (p : Pt) : Prop := p.1 ≤ 1000 ∧ p.2.1 ≤ 1000 ∧ p.2.2 ≤ 1000
theorem wfSm {n : Nat} (h : n ≤ 100000000000000) : (Lit.int .i64 (n : Int)).wf = true := by
 simp [Lit.wf, IntKind.min, IntKind.max, IntKind.signed, IntKind.bits]
 omega
set_option maxRecDepth 100000 in
theorem keyPl {p : Pt} (h : SmQ p) : ∃ kl, keyOf Try.prog 159 (plV p) = some kl := by
 have w1 : (Lit.int .i64 (p.1 : Int)).wf = true := wfSm (by have := h.1; omega)
 have w2 : (Lit.int .i64 (p.2.1 : Int)).wf = true := wfSm (by have := h.2.1; omega)
 have w3 : (Lit.int .i64 (p.2.2 : Int)).wf = true := wfSm (by have := h.2.2; omega)
 unfold plV
 generalize (p.1 : Int) = x at *
 generalize (p.2.1 : Int) = y at *
 generalize (p.2.2 : Int) = z at *
 have h1 : Try.prog.keyType 159 = true := by kernel_rfl
 have hc : Try.prog.cellsOf 159 = 3 := by kernel_rfl
 have hi : Try.prog.cellsOf 3 = 1 := by kernel_rfl
 have h2 : (Value.agg #[.int .i64 x, .int .i64 y, .int .i64 z]).formed Try.prog 159 = true := by simp [Value.formed, Try.underlying159, hc]
 obtain ⟨n, hn⟩ : ∃ n, Try.prog.types.size + 1 = n + 1 + 1 := ⟨Try.prog.types.size - 1, by kernel_rfl⟩
 have h3 : Try.prog.keyLits (Try.prog.types.size + 1) 159 [.int .i64 x, .int .i64 y, .int .i64 z] = some [.int .i64 x, .int .i64 y, .int .i64 z] := by
  rw [hn]
  simp [Program.keyLits, Try.underlying159, Try.underlying3, hc, hi, w1, w2, w3]
 refine ⟨.string (keyBytes [.int .i64 x, .int .i64 y, .int .i64 z]), ?_⟩
 unfold keyOf
 rw [Try.underlying159]
 simp only [h1, h2, Bool.and_self, if_true, Value.cells, h3, Option.map_some]
theorem plV_one {p q : Pt} (h : plV p = plV q) : p = q := by
 obtain ⟨a, b, c⟩ := p
 obtain ⟨a', b', c'⟩ := q
 simp [plV] at h
 simp only [Prod.mk.injEq]
 omega
theorem keyPl_inj {p q : Pt} {kl : Lit} (h : keyOf Try.prog 159 (plV p) = some kl) (h' : keyOf Try.prog 159 (plV q) = some kl) : p = q := plV_one (lawPl.inj h h')
def DoneM (w : World) (m : Nat) (ds : List (Pt × Nat)) : Prop :=
  ∃ D : DataW Unit, w.ownsMap Try.prog 159 (plainElem Try.prog 3) m ds.length D ∧ Maps.size D = ds.length ∧
    ∀ p kl, keyOf Try.prog 159 (plV p) = some kl → (∀ d, (p, d) ∈ ds → has D kl = true ∧ D.atKey kl (.lit (.int .i64 0)) = .lit (.int .i64 (d : Int))) ∧ ((∀ d, (p, d) ∉ ds) → has D kl = false)
def mapLen (w : World) (m : Nat) : Nat := match w.heap[m]? with
 | some (.map es _) => es.size
 | _ => 0
theorem DoneM.len {w : World} {m : Nat} {ds : List (Pt × Nat)} (h : DoneM w m ds) : mapLen w m = ds.length := by
 obtain ⟨D, ⟨es, clock, hb, F, _, rfl⟩, h2, _⟩ := h
 rw [← h2]
 unfold mapLen
 rw [hb]
 simp [Maps.size, length_sorted]
theorem DoneM.lt {w : World} {m : Nat} {ds : List (Pt × Nat)} (h : DoneM w m ds) : m < w.heap.size := by obtain ⟨D, h, _⟩ := h; exact h.lt
theorem DoneM.made (w : World) : DoneM (w.alloc (.map #[] 0)) w.heap.size [] :=
 ⟨_, World.ownsMap_made w _ _ _, rfl, fun p kl h => ⟨fun d hd => (by cases hd), fun _ => rfl⟩⟩
theorem DoneM.keep {w w' : World} {m : Nat} {ds : List (Pt × Nat)} (h : DoneM w m ds) (e : w'.heap[m]? = w.heap[m]?) : DoneM w' m ds := by
 obtain ⟨D, ⟨es, clock, hb, h0⟩, h1⟩ := h
 exact ⟨D, ⟨es, clock, e.trans hb, h0⟩, h1⟩
theorem DoneM.alloc {w : World} {m : Nat} {ds : List (Pt × Nat)} (h : DoneM w m ds) (o : Obj) : DoneM (w.alloc o) m ds := h.keep (Below.heap_alloc w o m h.lt)
theorem DoneM.below {w w' : World} {m B : Nat} {ds : List (Pt × Nat)} (h : DoneM w m ds) (hb : Below B w w') (hB : m < B) : DoneM w' m ds := h.keep (hb.block m hB)
theorem DoneM.turn {w w' : World} {m b : Nat} {r : Option Nat} {ds : List (Pt × Nat)} (h : DoneM w m ds) (ht : Turn2 w w' b r) (hb : m ≠ b) (hr : some m ≠ r) : DoneM w' m ds := h.keep (ht.block m h.lt hb hr)
theorem zeroPl (w : World) : (zeroValue 3).run Try.prog w = .ok (.int .i64 0) w := by kernel_rfl
set_option maxRecDepth 100000 in
theorem DoneM.look {w : World} {m : Nat} {ds : List (Pt × Nat)} (h : DoneM w m ds) {p : Pt} (hp : SmQ p) :
  (∃ d, (p, d) ∈ ds ∧ (Instr.lookup 156 (.map (some m)) (.agg #[.int .i64 (p.1 : Int), .int .i64 (p.2.1 : Int), .int .i64 (p.2.2 : Int)]) true).run Try.prog w = .ok (.tuple #[.int .i64 (d : Int), .bool true]) w) ∨
  ((∀ d, (p, d) ∉ ds) ∧ ∃ c, (Instr.lookup 156 (.map (some m)) (.agg #[.int .i64 (p.1 : Int), .int .i64 (p.2.1 : Int), .int .i64 (p.2.2 : Int)]) true).run Try.prog w = .ok (.tuple #[.int .i64 c, .bool false]) w) := by
 obtain ⟨D, h1, _, h3⟩ := h
 obtain ⟨kl, hk⟩ := keyPl hp
 obtain ⟨v, ps, hr, hv⟩ := World.ownsMap.look_ok h1 lawPl Try.underlying156 (zeroPl w) (plainElem_int Try.underlying3 (by decide)) hk
 obtain ⟨c, rfl, hc, _⟩ := plainElem_int_inv Try.underlying3 hv
 have hc' := congrArg Prod.fst hc
 simp only at hc'
 obtain ⟨g1, g2⟩ := h3 p kl hk
 by_cases he : ∃ d, (p, d) ∈ ds
 ·obtain ⟨d, hd⟩ := he
  obtain ⟨k1, k2⟩ := g1 d hd
  left
  refine ⟨d, hd, ?_⟩
  rw [k2] at hc'
  rw [k1] at hr
  injection hc' with e1
  injection e1 with _ e2
  rw [← e2] at hr
  exact hr
 ·have hno : ∀ d, (p, d) ∉ ds := fun d hd => he ⟨d, hd⟩
  right
  rw [g2 hno] at hr
  exact ⟨hno, c, hr⟩
set_option maxRecDepth 100000 in
theorem DoneM.put {w : World} {m : Nat} {ds : List (Pt × Nat)} (h : DoneM w m ds) {p : Pt} (hp : SmQ p) (hno : ∀ d, (p, d) ∉ ds) {c : Nat} (hc : c ≤ 100000000000000) (hn : ds.length < 100000) :
  ∃ w', (Instr.mapUpdate 156 (.map (some m)) (.agg #[.int .i64 (p.1 : Int), .int .i64 (p.2.1 : Int), .int .i64 (p.2.2 : Int)]) (.int .i64 (c : Int))).run Try.prog w = .ok () w' ∧ DoneM w' m (ds ++ [(p, c)]) ∧ w.grownBy w' (some m) := by
 obtain ⟨D, h1, h2, h3⟩ := h
 obtain ⟨kl, hk⟩ := keyPl hp
 obtain ⟨w', hu, ho, hg⟩ := World.ownsMap.update (R := plainElem Try.prog 3) h1 lawPl Try.underlying156 (by unfold maxLen; omega) hk (plainElem_int Try.underlying3 (wfSm hc))
 refine ⟨w', hu, ⟨_, by rw [List.length_append]; exact ho, ?_, fun q kl' hk' => ?_⟩, hg⟩
 ·rw [size_put (h1.tidy lawPl), (h3 p kl hk).2 hno, h2]
  simp
 ·by_cases e : q = p
  ·subst e
   have : kl' = kl := by rw [hk] at hk'; injection hk' with h; exact h.symm
   subst this
   refine ⟨fun d hd => ⟨has_put_same h1.isMap (lawPl.key hk) _, ?_⟩, fun hq => absurd (List.mem_append_right _ List.mem_cons_self) (hq c)⟩
   rw [atKey_put_same h1.isMap (lawPl.key hk)]
   rcases List.mem_append.1 hd with g | g
   ·exact absurd g (hno d)
   ·simp only [List.mem_singleton, Prod.mk.injEq, true_and] at g
    rw [g]
  ·have hne : kl' ≠ kl := fun h => by
    subst h
    exact e (keyPl_inj hk' hk)
   have hmem : ∀ d, (q, d) ∈ ds ++ [(p, c)] ↔ (q, d) ∈ ds := fun d => by
    rw [List.mem_append]
    constructor
    ·rintro (g | g)
     ·exact g
     ·simp only [List.mem_singleton, Prod.mk.injEq] at g
      exact absurd g.1 e
    ·exact .inl
   obtain ⟨g1, g2⟩ := h3 q kl' hk'
   refine ⟨fun d hd => ?_, fun hq => ?_⟩
   ·obtain ⟨k1, k2⟩ := g1 d ((hmem d).1 hd)
    exact ⟨(has_put_other hne _).trans k1, (atKey_put_other hne _ _).trans k2⟩
   ·exact (has_put_other hne _).trans (g2 fun d hd => hq d ((hmem d).2 hd))
end Go.Proofs.Ytfpibdaedfilaaa.Wt
namespace Go.Proofs.Ytfpibdaedfilaaa.Pl
set_option linter.unusedVariables false
set_option linter.unusedSimpArgs false
theorem along_to {l : List St} {x y : List Int} {p : Pt} {k : Nat} {a : Ar} (hto : ToL l) (hin : InP l x y p) (hk : k < (el l p.1).2.length) (ha : el (el l p.1).2 k = a) :
  (∃ (p' : Pt) (wt : Nat), ToP l x y p k p' ∧ wtP l p k = wt ∧ wt ≤ 1000000000 ∧ a.2.2.1 = (wt : Int) ∧ a.2.2.2 = (p'.1 : Int) ∧ behP x p.2.1 a.1 = ((p'.2.1 : Int), true) ∧ behP y p.2.2 a.2.1 = ((p'.2.2 : Int), true)) ∨
  ((∀ p', ¬ ToP l x y p k p') ∧ ((behP x p.2.1 a.1).2 && (behP y p.2.2 a.2.1).2) = false) := by
 obtain ⟨⟨t, e1, e2⟩, w0, w1⟩ := hto _ hin.1 _ (el_mem hk)
 rw [ha] at e1 w0 w1
 have no1 : fitN x p.2.1 a.1 = none → ∀ p', ¬ ToP l x y p k p' := fun h p' ⟨_, _, h2, _⟩ => by rw [ha, h] at h2; cases h2
 have no2 : fitN y p.2.2 a.2.1 = none → ∀ p', ¬ ToP l x y p k p' := fun h p' ⟨_, _, _, h2⟩ => by rw [ha, h] at h2; cases h2
 rcases hb1 : (behP x p.2.1 a.1).2 with _ | _
 ·exact .inr ⟨no1 (behP_fit.2 hb1), rfl⟩
 ·rcases hb2 : (behP y p.2.2 a.2.1).2 with _ | _
  ·exact .inr ⟨no2 (behP_fit.2 hb2), rfl⟩
  ·obtain ⟨i, f1, g1⟩ := behP_fit.1 hb1
   obtain ⟨j, f2, g2⟩ := behP_fit.1 hb2
   refine .inl ⟨(t, i, j), a.2.2.1.toNat, ⟨hk, by rw [ha]; exact e1, by rw [ha]; exact f1, by rw [ha]; exact f2⟩, by unfold wtP; rw [ha], by omega, by omega, e1, ?_, ?_⟩
   ·rw [← g1, ← hb1]
   ·rw [← g2, ← hb2]
end Go.Proofs.Ytfpibdaedfilaaa.Pl
namespace Go.Proofs.Ytfpibdaedfilaaa.Wt
open Go.ChangeShapes Go.WideShapes Go.ChangeAt Go.RowKit
open Go.Proofs.Ytfpibdaedfilaaa.Pl
set_option linter.unusedVariables false
set_option linter.unusedSimpArgs false
structure PlcAt (w wr : World) (M B : Nat) (mc : Array Value) (v : Value) (hs : List Ar) (ds : List (Pt × Nat)) : Prop where
 box : Blk wr w.heap.size mc 27
 map : DoneM wr M ds
 var : Blk wr B #[v] 162
 heap : wr.ownsRow (B + 1) 165 4 v hs.length (hs.flatMap encA)
 below : Below w.heap.size w wr
 s0 : w.heap.size < M
 s1 : M < B
 s2 : B + 1 ≤ wr.heap.size
variable {w wr w' : World} {M B : Nat} {mc : Array Value} {v v' : Value} {hs hs' : List Ar} {ds ds' : List (Pt × Nat)}
theorem PlcAt.later (h : PlcAt w wr M B mc v hs ds) (hb : Below wr.heap.size wr w') : PlcAt w w' M B mc v hs ds :=
 ⟨h.box.below hb h.box.lt, h.map.below hb h.map.lt, h.var.below hb h.var.lt, ownBelow h.heap hb, h.below.trans (hb.mono h.below.size), h.s0, h.s1, Nat.le_trans h.s2 hb.size⟩
theorem PlcAt.alloc (h : PlcAt w wr M B mc v hs ds) (o : Obj) : PlcAt w (wr.alloc o) M B mc v hs ds := h.later ((Below.refl _ _).alloc (Nat.le_refl _) _)
theorem PlcAt.turn (h : PlcAt w wr M B mc v hs ds) (ht : Turn2 wr w' B v.ownBlock) (hv : Blk w' B #[v'] 162) (ho : w'.ownsRow (B + 1) 165 4 v' hs'.length (hs'.flatMap encA)) : PlcAt w w' M B mc v' hs' ds := by
 have h0 := h.s0
 have h1 := h.s1
 have hlow : ∀ k, k < B + 1 → some k ≠ v.ownBlock := fun k hk e => by have := (h.heap.lt k e.symm).1; omega
 exact ⟨ht.blk h.box (by omega) (hlow _ (by omega)), h.map.turn ht (by omega) (hlow _ (by omega)), hv, ho, h.below.trans (ht.below (by omega) (fun k hk => by have := (h.heap.lt k hk).1; omega) h.below.size), h0, h1, Nat.le_trans h.s2 ht.size⟩
theorem PlcAt.put (h : PlcAt w wr M B mc v hs ds) (hg : wr.grownBy w' (some M)) (hm : DoneM w' M ds') : PlcAt w w' M B mc v hs ds' := by
 have h0 := h.s0
 have h1 := h.s1
 refine ⟨h.box.grown hg (by simp; omega), hm, h.var.grown hg (by simp; omega), h.heap.kept hg (.inr ?_), h.below.trans ((Below.refl _ _).grown hg h.below.size (fun k hk => by simp at hk; omega)), h0, h1, Nat.le_trans h.s2 hg.size⟩
 intro e
 have := (h.heap.lt M e).1
 omega
def lenAt (w : World) (b : Nat) : Nat := match w.cell? ⟨b, 0, none⟩ with
 | some (.slice _ n _) => n
 | _ => 0
def msrW (w : World) (M B : Nat) : Nat := (20000 - mapLen w M) * 10000000 + lenAt w B
theorem PlcAt.msr (h : PlcAt w wr M B mc v hs ds) : msrW wr M B = (20000 - ds.length) * 10000000 + hs.length := by
 obtain ⟨a, cap, hv⟩ := own_slW h.heap
 unfold msrW lenAt
 rw [h.map.len, h.var.cell 0 (v := v) rfl, hv]
theorem lenW_low {n m a b : Nat} (h1 : n < m) (h2 : a ≤ 9000000) (hm : m ≤ 20000) : (20000 - m) * 10000000 + a < (20000 - n) * 10000000 + b := by
 have h3 : (20000 - m + 1) * 10000000 ≤ (20000 - n) * 10000000 := Nat.mul_le_mul_right _ (by omega)
 rw [Nat.add_mul] at h3
 omega
def NotRow (g : Nat) (v : Value) : Prop := some g ≠ v.ownBlock
theorem NotRow.next {g : Nat} (h : NotRow g v) (hn : Near wr v.ownBlock v') (hg : g < wr.heap.size) : NotRow g v' := by
 rcases hn with e | ⟨b, e, hb⟩
 ·unfold NotRow; rw [e]; exact h
 ·unfold NotRow; rw [e]; intro e2; simp at e2; omega
theorem NotRow.new {base : Nat} {e : TypeId} {s n : Nat} {xs : List Value} (ho : wr.ownsRow base e s v n xs) : NotRow wr.heap.size v := fun e2 => by
 have := (ho.lt _ e2.symm).2
 omega
theorem whPush_ex (B base : Nat) (v : Value) (hs : List Ar) (q0 q1 q2 q3 : Int) (w : World) (hB : Blk w B #[v] 162) (hown : w.ownsRow base 165 4 v hs.length (hs.flatMap encA)) (hbase : base ≤ w.heap.size) (hn : hs.length ≤ 9000000) (hH : HeapW hs hs.length) :
  Calls Try.prog 70 #[.iface 163 (.pointer (some ⟨B, 0, none⟩)), .iface 165 (.agg #[.int .i64 q0, .int .i64 q1, .int .i64 q2, .int .i64 q3])] w fun e w' => e = .returned (.tuple #[]) ∧ ∃ v' hs', HeapW hs' hs'.length ∧ hs'.Perm (hs ++ [(q0, q1, q2, q3)]) ∧ Blk w' B #[v'] 162 ∧ w'.ownsRow base 165 4 v' hs'.length (hs'.flatMap encA) ∧ Near w v.ownBlock v' ∧ Turn2 w w' B v.ownBlock :=
 whPush_any B base v hs (q0, q1, q2, q3) w hB hown hbase hn hH
theorem whPop_ex (B base : Nat) (v : Value) (hs : List Ar) (w : World) (hB : Blk w B #[v] 162) (hown : w.ownsRow base 165 4 v hs.length (hs.flatMap encA)) (h0 : 0 < hs.length) (hn : hs.length ≤ 9000000) (hH : HeapW hs hs.length) {l : List St} {x y : List Int} {z : Nat} {ds : List (Pt × Nat)} {b : Nat} (hD : Dij l x y z ds hs (fun _ _ => False) b) :
  Calls Try.prog 72 #[.iface 163 (.pointer (some ⟨B, 0, none⟩))] w fun e w' => ∃ (p : Pt) (c : Nat), e = .returned (.iface 165 (.agg #[.int .i64 (p.1 : Int), .int .i64 (p.2.1 : Int), .int .i64 (p.2.2 : Int), .int .i64 (c : Int)])) ∧ ∃ v' hs', HeapW hs' hs'.length ∧ (wyV p c :: hs').Perm hs ∧ (∀ a ∈ hs', (c : Int) ≤ a.2.2.2) ∧ Blk w' B #[v'] 162 ∧ w'.ownsRow base 165 4 v' hs'.length (hs'.flatMap encA) ∧ Turn2 w w' B v.ownBlock := by
 refine (whPop_any B base v hs w hB hown h0 hn hH).mono ?_
 rintro e w' ⟨q, rfl, v', hs', h1, h2, h3, h4, h5, h6, h7⟩
 obtain ⟨p, c, rfl, _⟩ := hD.heap q (h2.mem_iff.1 List.mem_cons_self)
 exact ⟨p, c, rfl, v', hs', h1, h2, h3, h4, h5, h7⟩
theorem blk_ne {w : World} {a b : Nat} {cs cs' : Array Value} {t t' : TypeId} (h1 : Blk w a cs t) (h2 : Blk w b cs' t') (ht : t ≠ t') : a ≠ b := fun e => by
 subst e
 unfold Blk at h1 h2
 rw [h1] at h2
 simp at h2
 exact ht h2.2
theorem places_in {l : List St} {x y : List Int} {z : Nat} {ds : List (Pt × Nat)} {hs hs' : List Ar} {b : Nat} {p : Pt} {c : Nat} (hD : Dij l x y z ds hs (fun _ _ => False) b) (hp : (wyV p c :: hs').Perm hs) (hto : ToL l) (hz : z < l.length) (hl : l.length ≤ 60) (hx : x.length ≤ 12) (hy : y.length ≤ 12) (hd : ds.length ≤ 10140) :
  InP l x y p ∧ SmQ p ∧ c ≤ 20000000000000 := by
 obtain ⟨p', c', e, h1, _, h2⟩ := hD.heap (wyV p c) (hp.mem_iff.1 List.mem_cons_self)
 obtain ⟨rfl, rfl⟩ := wyV_one e
 have h3 := h1.inside hto hz
 refine ⟨h3, ⟨by have := h3.1; omega, by have := h3.2.1; omega, by have := h3.2.2; omega⟩, ?_⟩
 have : ds.length * 1000000000 ≤ 10140 * 1000000000 := Nat.mul_le_mul_right _ hd
 omega
set_option maxRecDepth 100000 in
set_option maxHeartbeats 6400000 in
theorem places_any (z : Nat) (vs vx vy : Value) (l : List St) (x y : List Int) (w : World) (h : Mach w (.agg #[.int .i64 (z : Int), vs]) ((z : Int), l)) (hr : faultM ((z : Int), l) = 0) (nx : Nums w vx x) (ny : Nums w vy y) (hx : x.length ≤ 12) (hy : y.length ≤ 12) :
  Calls Try.prog 93 #[.agg #[.int .i64 (z : Int), vs], vx, vy] w fun e w' => ∃ (mb : Nat) (ds : List (Pt × Nat)) (b : Nat), e = .returned (.map (some mb)) ∧ DoneM w' mb ds ∧ Dij l x y z ds [] (fun _ _ => False) b ∧ Below w.heap.size w w' ∧ w.heap.size ≤ mb := by
 have HM : Hid (Mach w (.agg #[.int .i64 (z : Int), vs]) ((z : Int), l)) := h
 obtain ⟨vs', hvs, hS⟩ := h
 simp only [Value.agg.injEq, Array.mk.injEq, List.cons.injEq, and_true, true_and] at hvs
 subst hvs
 obtain ⟨a, cap, rfl, hc⟩ := hS.get
 have HC : Hid (∀ j, j < l.length → ∃ b off va, a = some ⟨b, off, none⟩ ∧ b < w.heap.size ∧ w.cell? ⟨b, off + j * 2, none⟩ = some (.int .i64 (el l j).1) ∧ w.cell? ⟨b, off + j * 2 + 1, none⟩ = some va ∧ Arcs w va (el l j).2) := hc
 have HTO : Hid (ToL l) := right_toL hr
 have HAR : Hid (∀ q, (el l q).2.length ≤ 400) := right_arcs hr
 have hzl : z < l.length := by
  have h1 := (faultM_zero hr).2
  simp only [rangeB, Bool.and_eq_true, inB, decide_eq_true_eq] at h1
  omega
 have HZL : Hid (z < l.length) := hzl
 have H60 : Hid (l.length ≤ 60) := (right_size hr).1
 have HX : Hid (Nums w vx x ∧ x.length ≤ 12) := ⟨nx, hx⟩
 have HY : Hid (Nums w vy y ∧ y.length ≤ 12) := ⟨ny, hy⟩
 have hzn : ¬ (z : Int) = -1 := by omega
 clear hS hc hr nx ny hx hy
 generalize hn : l.length = n at *
 have HN : Hid (l.length = n) := hn
 clear hn
 have HZ2 : Hid (z < l.length ∧ l.length ≤ 60) := by show _ ∧ _; rw [HN.out]; exact ⟨HZL.out, H60.out⟩
 have T0 : Hid (PlcAt w (((w.alloc (.cells #[.int .i64 (z : Int), .slice a n cap] 27)).alloc (.map #[] 0)).alloc (.cells #[.slice none 0 0] 162)) (w.heap.size + 1) (w.heap.size + 1 + 1) #[.int .i64 (z : Int), .slice a n cap] (.slice none 0 0) [] []) := by
  have k1 := DoneM.made (w.alloc (.cells #[.int .i64 (z : Int), .slice a n cap] 27))
  have k2 := Blk.made ((w.alloc (.cells #[.int .i64 (z : Int), .slice a n cap] 27)).alloc (.map #[] 0)) #[.slice none 0 0] 162
  simp only [World.size_alloc] at k1 k2
  exact ⟨((Blk.made w _ _).alloc _).alloc _, k1.alloc _, k2, World.ownsRow_nil _ _ _ _, (((Below.refl _ _).alloc (Nat.le_refl _) _).alloc (by simp) _).alloc (by simp; omega) _, by omega, by omega, by simp⟩
 have HD0 : Hid (Dij l x y z [] [wyV (z, 0, 0) 0] (fun _ _ => False) 0) := Dij.start _
 have HP0 : Hid (∀ W, W = (((w.alloc (.cells #[.int .i64 (z : Int), .slice a n cap] 27)).alloc (.map #[] 0)).alloc (.cells #[.slice none 0 0] 162)) → Calls Try.prog 70 #[.iface 163 (.pointer (some ⟨w.heap.size + 1 + 1, 0, none⟩)), .iface 165 (.agg #[.int .i64 (z : Int), .int .i64 0, .int .i64 0, .int .i64 0])] W fun e w' => e = .returned (.tuple #[]) ∧ ∃ v' hs', HeapW hs' hs'.length ∧ hs' = [wyV (z, 0, 0) 0] ∧ PlcAt w w' (w.heap.size + 1) (w.heap.size + 1 + 1) #[.int .i64 (z : Int), .slice a n cap] v' hs' []) := by
  rintro W rfl
  refine (whPush_ex (w.heap.size + 1 + 1) (w.heap.size + 1 + 1 + 1) (.slice none 0 0) [] (z : Int) 0 0 0 _ T0.out.var T0.out.heap T0.out.s2 (by simp) HeapW.nil).mono ?_
  rintro e w' ⟨rfl, v', hs', h1, h2, h3, h4, h5, h6⟩
  refine ⟨rfl, v', hs', h1, ?_, T0.out.turn h6 h3 h4⟩
  have h7 := List.perm_singleton.1 h2
  rw [h7]
  simp [wyV]
 have hta := assert_way
 have hmm : ∀ W : World, (Instr.makeMap 156 none).run Try.prog W = .ok (.map (some W.heap.size)) (W.alloc (.map #[] 0)) := fun W => rfl
 go_enter Try.func93, Try.ntmps93
 go_wp2_with (first
  | (go_at_call 70; (with_reducible refine (HP0.out _ rfl).mono ?_); rintro e w1 ⟨rfl, v1, hs1, hh1, hl1, ht1⟩; have HH1 : Hid (HeapW hs1 hs1.length ∧ hs1 = [wyV (z, 0, 0) 0]) := ⟨hh1, hl1⟩; have HT1 : Hid (PlcAt w w1 (w.heap.size + 1) (w.heap.size + 1 + 1) #[.int .i64 (z : Int), .slice a n cap] v1 hs1 []) := ht1; clear hh1 hl1 ht1))
 clear T0 HP0 hmm
 generalize hB : w.heap.size + 1 + 1 = B at *
 generalize hM : w.heap.size + 1 = M at *
 have HMB : Hid (w.heap.size ≤ M) := by show _ ≤ _; omega
 clear hM hB
 go_loopw [] (fun wr => ∃ (ds : List (Pt × Nat)) (hs : List Ar) (v : Value) (b : Nat), Hid (Dij l x y z ds hs (fun _ _ => False) b ∧ HeapW hs hs.length ∧ hs.length ≤ 1 + 400 * ds.length) ∧ Hid (PlcAt w wr M B #[.int .i64 (z : Int), .slice a n cap] v hs ds)) (fun wr => msrW wr M B)
 case atStart =>
  have h9 := HH1.out.2
  subst h9
  exact ⟨[], _, v1, 0, ⟨HD0.out, HH1.out.1, by simp⟩, HT1⟩
 case round =>
  clear HH1 HT1 HD0
  obtain ⟨ds, hs, v, b, hI, hT⟩ := hrel
  obtain ⟨w2, hw2⟩ : ∃ w2, w2 = wr := ⟨_, rfl⟩
  subst hw2
  have hfew : ds.length ≤ 10140 := hI.out.1.few HTO.out HZ2.out.1 HZ2.out.2 HX.out.2 HY.out.2
  have hlen : hs.length ≤ 5000000 := by have := hI.out.2.2; omega
  have HMS : Hid (msrW w2 M B = (20000 - ds.length) * 10000000 + hs.length) := hT.out.msr
  obtain ⟨av, cv, hv⟩ := own_slW hT.out.heap
  subst hv
  have cB := hT.out.var.cell 0 (v := .slice av hs.length cv) rfl
  by_cases hz : hs.length = 0
  ·have hz' : ((hs.length : Nat) : Int) = 0 := by omega
   have HDE : Hid (Dij l x y z ds [] (fun _ _ => False) b) := by have h9 := hI.out.1; rw [List.eq_nil_of_length_eq_zero hz] at h9; exact h9
   go_wp2_with (first
    | (go_at_call 96; (with_reducible refine (wLen_any _ _ _ _).mono ?_); rintro e w3 ⟨rfl, rfl⟩))
   go_ret
   exact ⟨M, ds, b, rfl, hT.out.map, HDE.out, hT.out.below, HMB.out⟩
  ·have hz' : (0 : Int) < ((hs.length : Nat) : Int) := by omega
   have HPO := hidP (whPop_ex B (B + 1) _ hs w2 hT.out.var hT.out.heap (by omega) (by omega) hI.out.2.1 hI.out.1)
   go_wp2_with (first
    | (go_at_call 96; (with_reducible refine (wLen_any _ _ _ _).mono ?_); rintro e w3 ⟨rfl, rfl⟩)
    | (go_at_call 72; ((with_reducible refine HPO.out.mono ?_); rintro e w3 ⟨p, c, rfl, v3, hs3, hh3, hp3, hle3, hb3, ho3, ht3⟩; have HT3 : Hid (PlcAt w w3 M B #[.int .i64 (z : Int), .slice a n cap] v3 hs3 ds) := hT.out.turn ht3 hb3 ho3; have HQ3 : Hid (HeapW hs3 hs3.length ∧ (wyV p c :: hs3).Perm hs ∧ (∀ a ∈ hs3, (c : Int) ≤ a.2.2.2)) := ⟨hh3, hp3, hle3⟩; clear hh3 hp3 hle3 hb3 ho3 ht3; have HIN : Hid (InP l x y p ∧ SmQ p ∧ c ≤ 20000000000000) := places_in hI.out.1 HQ3.out.2.1 HTO.out HZ2.out.1 HZ2.out.2 HX.out.2 HY.out.2 hfew; have hlk := (HT3.out.alloc (.cells #[.int .i64 (p.1 : Int), .int .i64 (p.2.1 : Int), .int .i64 (p.2.2 : Int), .int .i64 (c : Int)] 165)).map.look HIN.out.2.1; rcases hlk with ⟨d, hd, hlk⟩ | ⟨hno, d, hlk⟩; case' inr => (have HNO := hidP hno; obtain ⟨w4, hup, hd4, hg4⟩ := (HT3.out.alloc (.cells #[.int .i64 (p.1 : Int), .int .i64 (p.2.1 : Int), .int .i64 (p.2.2 : Int), .int .i64 (c : Int)] 165)).map.put HIN.out.2.1 hno (c := c) (by have := HIN.out.2.2; omega) (by omega); have HT4 : Hid (PlcAt w w4 M B #[.int .i64 (z : Int), .slice a n cap] v3 hs3 (ds ++ [(p, c)])) := (HT3.out.alloc _).put hg4 hd4; have BW4 : Hid (Blk w4 w3.heap.size #[.int .i64 (p.1 : Int), .int .i64 (p.2.1 : Int), .int .i64 (p.2.2 : Int), .int .i64 (c : Int)] 165) := (Blk.made w3 _ _).grown hg4 (by have := HT3.out.map.lt; simp; omega); have NR4 : Hid (NotRow w3.heap.size v3) := NotRow.new HT3.out.heap; have hpn : p.1 < n := (by have := HIN.out.1.1; rw [HN.out] at this; exact this); obtain ⟨bb, off, va, ha, hbl, g0, g1, gA⟩ := HC.out p.1 hpn; subst ha; obtain ⟨a2, cap2, hva, hga⟩ := gA.get; subst hva; have g1 := (HT4.out.below.cell (p := ⟨bb, off + p.1 * 2 + 1, none⟩) hbl).trans g1; have bx1 := HT4.out.box.cell 1 (v := .slice (some ⟨bb, off, none⟩) n cap) rfl; have cw0 := BW4.out.cell 0 (v := .int .i64 (p.1 : Int)) rfl; have k1 : (0 : Int) ≤ (p.1 : Int) := Int.natCast_nonneg _; have k2 : (p.1 : Int) < (n : Int) := (by omega); have HGA := hidP hga; have hl4 : (el l p.1).2.length ≤ 400 := HAR.out p.1; have HD4 : Hid (Dij l x y z (ds ++ [(p, c)]) hs3 (fun q i => q = p ∧ 0 ≤ i) c) := hI.out.1.new HQ3.out.2.1 HQ3.out.2.2 hno; have HL3 : Hid (hs3.length ≤ 1 + 400 * ds.length) := (by have h8 := hI.out.2.2; have h9 := HQ3.out.2.1.length_eq; rw [List.length_cons] at h9; show _ ≤ _; omega); clear hga gA hd4 hg4 hno g0; generalize hL : (el l p.1).2.length = L at *; have HL := hidP hL; clear hL))))
   ·generalize hG : w3.heap.size = G at *
    have HGL : Hid (G < w4.heap.size) := BW4.out.lt
    clear hlk hup cw0 bx1 g1 k1 k2
    go_loopw [55] (fun i55 wi => ∃ (k : Nat) (v : Value) (hs' : List Ar), k ≤ L ∧ i55 = .int .i64 (k : Int) ∧ Hid (Dij l x y z (ds ++ [(p, c)]) hs' (fun q i => q = p ∧ k ≤ i) c ∧ HeapW hs' hs'.length ∧ hs'.length ≤ 1 + 400 * ds.length + k) ∧ Hid (PlcAt w wi M B #[.int .i64 (z : Int), .slice (some ⟨bb, off, none⟩) n cap] v hs' (ds ++ [(p, c)])) ∧ Hid (Blk wi G #[.int .i64 (p.1 : Int), .int .i64 (p.2.1 : Int), .int .i64 (p.2.2 : Int), .int .i64 (c : Int)] 165) ∧ Hid (NotRow G v)) (fun i55 _ => L - (intOf i55).toNat)
    case atStart => exact ⟨0, v3, hs3, Nat.zero_le _, rfl, ⟨HD4.out, HQ3.out.1, HL3.out⟩, HT4, BW4, NR4⟩
    case round =>
     clear HD4 HT4 BW4 NR4 HL3 HQ3
     obtain ⟨k, v5, hs5, hk, rfl, hI5, hT5, hB5, hN5⟩ := hrel
     obtain ⟨w5, hw5⟩ : ∃ w5, w5 = wr := ⟨_, rfl⟩
     subst hw5
     have hBG : G ≠ B := blk_ne hB5.out hT5.out.var (by decide)
     by_cases hlt : k < L
     ·have j0 : (0 : Int) ≤ (k : Int) := Int.natCast_nonneg _
      have j1 : (k : Int) < (L : Int) := by omega
      obtain ⟨b2, off2, ha2, hb2l, q0, q1, q2, q3⟩ := HGA.out k hlt
      subst ha2
      have q0 := (hT5.out.below.cell (p := ⟨b2, off2 + k * 4, none⟩) hb2l).trans q0
      have q1 := (hT5.out.below.cell (p := ⟨b2, off2 + k * 4 + 1, none⟩) hb2l).trans q1
      have q2 := (hT5.out.below.cell (p := ⟨b2, off2 + k * 4 + 2, none⟩) hb2l).trans q2
      have q3 := (hT5.out.below.cell (p := ⟨b2, off2 + k * 4 + 3, none⟩) hb2l).trans q3
      have cw0 := hB5.out.cell 0 (v := .int .i64 (p.1 : Int)) rfl
      have cw1 := hB5.out.cell 1 (v := .int .i64 (p.2.1 : Int)) rfl
      have cw2 := hB5.out.cell 2 (v := .int .i64 (p.2.2 : Int)) rfl
      have sW : G < w5.heap.size := hB5.out.lt
      obtain ⟨ar, har⟩ : ∃ ar : Ar, el (el l p.1).2 k = ar := ⟨_, rfl⟩
      have HGT := along_to HTO.out HIN.out.1 (by rw [HL.out]; exact hlt) har
      rw [har] at q0 q1 q2 q3
      clear har
      obtain ⟨a0, a1, a4, a3⟩ := ar
      simp only at q0 q1 q2 q3 HGT
      have hi12 : p.2.1 ≤ 12 := Nat.le_trans HIN.out.1.2.1 HX.out.2
      have hj12 : p.2.2 ≤ 12 := Nat.le_trans HIN.out.1.2.2 HY.out.2
      have HC5 : Hid (∀ W, Below w5.heap.size w5 W → Below w.heap.size w W) := fun W hW => hT5.out.below.trans (hW.mono hT5.out.below.size)
      rcases HGT with ⟨p', wt, hto, hwt, hwl, e1, e2, e3, e4⟩ | ⟨hno2, hf⟩
      ·subst e1
       subst e2
       have HAL : Hid (∀ W, Below w5.heap.size w5 W → Calls Try.prog 97 #[.agg #[.int .i64 (p.1 : Int), .int .i64 (p.2.1 : Int), .int .i64 (p.2.2 : Int)], .agg #[.int .i64 a0, .int .i64 a1, .int .i64 (wt : Int), .int .i64 (p'.1 : Int)], vx, vy] W fun e w' => e = .returned (.tuple #[.agg #[.int .i64 (p'.1 : Int), .int .i64 (p'.2.1 : Int), .int .i64 (p'.2.2 : Int)], .bool true]) ∧ Below W.heap.size W w') := fun W hW => by
        have h9 := along_any vx vy x y p.1 p.2.1 p.2.2 (a0, a1, (wt : Int), (p'.1 : Int)) W (HX.out.1.later (HC5.out W hW) (Nat.le_refl _)) (HY.out.1.later (HC5.out W hW) (Nat.le_refl _)) HX.out.2 HY.out.2 hi12 hj12
        simp only [e3, e4, Bool.and_self] at h9
        exact h9
       have hsum : IntKind.i64.wrap ((c : Int) + (wt : Int)) = (c : Int) + (wt : Int) := wrapI (by omega) (by have := HIN.out.2.2; omega)
       have HTO2 := hidP hto
       have HWT := hidP hwt
       have hl5 : hs5.length ≤ 9000000 := by have := hI5.out.2.2; omega
       clear e3 e4 hto hwt
       go_wp2_with (first
        | (go_at_call 97; (with_reducible refine (HAL.out _ (by go_grown)).mono ?_); rintro e w6 ⟨rfl, hb⟩; obtain ⟨s6, bA, hb6⟩ := boxed hb (by simp); have T6 := hidP (hT5.out.later hb6); have BG6 := hidP (hB5.out.below hb6 hB5.out.lt); have sG : G < w6.heap.size := BG6.out.lt; have sA : w5.heap.size < w6.heap.size := (by omega); have cw3 := BG6.out.cell 3 (v := .int .i64 (c : Int)) rfl; have ca2 := bA.cell 2 (v := .int .i64 (wt : Int)) rfl; have T7 := hidP (T6.out.alloc (.cells #[.int .i64 (p'.1 : Int), .int .i64 (p'.2.1 : Int), .int .i64 (p'.2.2 : Int)] 159)); have HPU := hidP (whPush_ex B (B + 1) v5 hs5 (p'.1 : Int) (p'.2.1 : Int) (p'.2.2 : Int) ((c : Int) + (wt : Int)) _ T7.out.var T7.out.heap T7.out.s2 hl5 hI5.out.2.1); clear hb bA hb6 s6)
        | (go_at_call 70; (with_reducible refine HPU.out.mono ?_); rintro e w8 ⟨rfl, v8, hs8, hh8, hp8, hb8, ho8, hn8, ht8⟩; have T8 := hidP (T7.out.turn ht8 hb8 ho8); have B8 := hidP (ht8.blk (BG6.out.alloc (.cells #[.int .i64 (p'.1 : Int), .int .i64 (p'.2.1 : Int), .int .i64 (p'.2.2 : Int)] 159)) hBG hN5.out); have N8 := hidP (hN5.out.next hn8 (by simp; omega)); have HP8 := hidP hp8; have HH8 := hidP hh8; clear hh8 hp8 hb8 ho8 hn8 ht8))
       go_roundw
       case rel =>
        refine ⟨k + 1, v8, hs8, by omega, by go_num, ⟨hI5.out.1.push HTO.out HZ2.out.1 (by simp) HTO2.out ?_, HH8.out, ?_⟩, T8, B8, N8⟩
        ·rw [HWT.out]
         have h9 := HP8.out
         rw [← Int.natCast_add] at h9
         exact h9
        ·rw [HP8.out.length_eq, List.length_append]
         have := hI5.out.2.2
         simp
         omega
       case measure => simp [intOf]; omega
      ·have HAL : Hid (∃ r1 r2 : Int, ∀ W, Below w5.heap.size w5 W → Calls Try.prog 97 #[.agg #[.int .i64 (p.1 : Int), .int .i64 (p.2.1 : Int), .int .i64 (p.2.2 : Int)], .agg #[.int .i64 a0, .int .i64 a1, .int .i64 a4, .int .i64 a3], vx, vy] W fun e w' => e = .returned (.tuple #[.agg #[.int .i64 a3, .int .i64 r1, .int .i64 r2], .bool false]) ∧ Below W.heap.size W w') := ⟨_, _, fun W hW => by
        have h9 := along_any vx vy x y p.1 p.2.1 p.2.2 (a0, a1, a4, a3) W (HX.out.1.later (HC5.out W hW) (Nat.le_refl _)) (HY.out.1.later (HC5.out W hW) (Nat.le_refl _)) HX.out.2 HY.out.2 hi12 hj12
        simp only [hf] at h9
        exact h9⟩
       obtain ⟨r1, r2, hal⟩ := HAL.out
       have HAL2 := hidP hal
       have HNO2 := hidP hno2
       clear hf hno2 HAL hal
       go_wp2_with (first
        | (go_at_call 97; (with_reducible refine (HAL2.out _ (by go_grown)).mono ?_); rintro e w6 ⟨rfl, hb⟩; obtain ⟨s6, bA, hb6⟩ := boxed hb (by simp); have T6 := hidP (hT5.out.later hb6); have BG6 := hidP (hB5.out.below hb6 hB5.out.lt); have sG : G < w6.heap.size := BG6.out.lt; have sA : w5.heap.size < w6.heap.size := (by omega); clear hb bA hb6 s6))
       go_roundw
       case rel => exact ⟨k + 1, v5, hs5, by omega, by go_num, ⟨hI5.out.1.skip HNO2.out, hI5.out.2.1, by have := hI5.out.2.2; omega⟩, T6.out.alloc _, BG6.out.alloc _, hN5⟩
       case measure => simp [intOf]; omega
     ·have hke : k = L := by omega
      have hnl : ¬ (k : Int) < (L : Int) := by omega
      go_wp2
      have h8 := hT5.out.msr
      have h7 := hI5.out.2.2
      have h6 : (ds ++ [(p, c)]).length = ds.length + 1 := by simp
      refine ⟨⟨ds ++ [(p, c)], hs5, v5, c, ⟨hI5.out.1.all (by rw [HL.out]; omega), hI5.out.2.1, by rw [h6]; omega⟩, hT5⟩, ?_⟩
      rw [h8, HMS.out, h6]
      exact lenW_low (by omega) (by omega) (by omega)
   ·refine ⟨⟨ds, hs3, v3, b, ⟨hI.out.1.old HQ3.out.2.1 hd, HQ3.out.1, by have h8 := hI.out.2.2; have h9 := HQ3.out.2.1.length_eq; rw [List.length_cons] at h9; omega⟩, HT3.out.alloc _⟩, ?_⟩
    ·have h8 := (HT3.out.alloc (.cells #[.int .i64 (p.1 : Int), .int .i64 (p.2.1 : Int), .int .i64 (p.2.2 : Int), .int .i64 (c : Int)] 165)).msr
     have h9 := HQ3.out.2.1.length_eq
     rw [List.length_cons] at h9
     rw [h8, HMS.out]
     omega
end Go.Proofs.Ytfpibdaedfilaaa.Wt
