/- A map of marks by their states. -/
import Derived.Test.YtkeeiihaijhdoaaSkg
import Derived.Test.YtkeeiihaijhdoaaPlainMb
import Derived.Maps.Own
import Derived.Maps.OwnSet
import Derived.Maps.Views
import Derived.Maps.Keyed
import Derived.Maps.RangeWalk
namespace Go.Proofs.Ytkeeiihaijhdoaa.Sm
open Go.ChangeShapes Go.WideShapes Go.ChangeAt Go.RowKit Go.Maps
open Go.Proofs.Ytkeeiihaijhdoaa.Pl Go.Proofs.Ytkeeiihaijhdoaa.Wt
set_option linter.unusedVariables false
set_option linter.unusedSimpArgs false
/-- All cells are as they were. -/
def Keeps (w w' : World) : Prop := ∀ a v, w.cell? a = some v → w'.cell? a = some v
theorem Keeps.refl (w : World) : Keeps w w := fun _ _ h => h
theorem Keeps.trans {a b c : World} (h : Keeps a b) (g : Keeps b c) : Keeps a c := fun x v e => g x v (h x v e)
theorem Keeps.below {w w' : World} (hb : Below w.heap.size w w') : Keeps w w' := fun a v h => (hb.cell (World.block_lt_of_cell? _ _ h)).trans h
theorem Keeps.grown {w w' : World} {m : Nat} {es : Array MapEntry} {c : Nat} (hg : w.grownBy w' (some m)) (hm : w.heap[m]? = some (.map es c)) : Keeps w w' := fun a v h => by
  have hne : a.block ≠ m := fun e => by
    simp [World.cell?, e, hm] at h
  rw [World.cell?_of_block (hg.block a.block (World.block_lt_of_cell? _ _ h) (by simpa using hne))]
  exact h
theorem Row.keeps {α : Type} [Inhabited α] {k : Nat} {enc : α → List Value} {w w' : World} {v : Value} {xs : List α} (h : Row k enc w v xs) (hk : Keeps w w') : Row k enc w' v xs := by
  rcases h with h | ⟨x, cap, hv, hc⟩
  · exact .inl h
  · exact .inr ⟨x, cap, hv, fun j hj i u hu => hk _ _ (hc j hj i u hu)⟩
theorem Nums.keeps {w w' : World} {v : Value} {l : List Int} (h : Nums w v l) (hk : Keeps w w') : Nums w' v l := Row.keeps h hk
theorem MkIs.keeps {w w' : World} {v : Value} {k : Mk} (h : MkIs w v k) (hk : Keeps w w') : MkIs w' v k := by
  obtain ⟨vo, h1, h2⟩ := h
  exact ⟨vo, h1, Nums.keeps h2 hk⟩
theorem Mach.keeps {w w' : World} {v : Value} {m : Mc} (h : Mach w v m) (hk : Keeps w w') : Mach w' v m := by
  obtain ⟨vs, h1, us, g1, g2, g3⟩ := h
  exact ⟨vs, h1, us, Row.keeps g1 hk, g2, fun j hj => ⟨(g3 j hj).1, Row.keeps (g3 j hj).2 hk⟩⟩
theorem Marks.keeps {w w' : World} {v : Value} {l : List Mk} (h : Marks w v l) (hk : Keeps w w') : Marks w' v l := by
  obtain ⟨us, g1, g2, g3⟩ := h
  exact ⟨us, Row.keeps g1 hk, g2, fun j hj => ⟨(g3 j hj).1, (g3 j hj).2.1, Nums.keeps (g3 j hj).2.2 hk⟩⟩
/-- The value of a mark by its parts. -/
abbrev Mv := Int × Int × Option Addr × Nat × Nat
def mkMv (x : Mv) : Value := .agg #[.int .i64 x.1, .int .i64 x.2.1, .slice x.2.2.1 x.2.2.2.1 x.2.2.2.2]
def rdM (v : Value) : Option (DataW Value × List MemPlace) := match v with
  | .agg c => (match c.toList with
    | [.int .i64 _, .int .i64 _, .slice _ _ _] => some (.held v, [])
    | _ => none)
  | _ => none
theorem rdM_mk (x : Mv) : rdM (mkMv x) = some (.held (mkMv x), []) := rfl
theorem rdM_inv {v : Value} {y : DataW Value × List MemPlace} (h : rdM v = some y) : ∃ x, v = mkMv x ∧ y = (.held v, []) := by
  unfold rdM at h
  split at h
  · rename_i c
    split at h
    · rename_i q x a n k hc
      have hcc : c = #[.int .i64 q, .int .i64 x, .slice a n k] := by
        apply Array.ext'
        simpa using hc
      subst hcc
      rw [Option.some.injEq] at h
      exact ⟨(q, x, a, n, k), rfl, h.symm⟩
    · cases h
  · cases h
theorem MkIs.mv {w : World} {v : Value} {k : Mk} (h : MkIs w v k) : ∃ (a : Option Addr) (c : Nat), v = mkMv (k.1, k.2.1, a, k.2.2.length, c) ∧ Nums w (.slice a k.2.2.length c) k.2.2 := by
  obtain ⟨vo, rfl, h2⟩ := h
  obtain ⟨a, c, rfl⟩ := Row.sl h2
  exact ⟨a, c, rfl, h2⟩
abbrev wfI (q : Int) : Prop := (Lit.int .i64 q).wf = true
theorem wfI_of {q : Int} (h1 : -1000000000000000 ≤ q) (h2 : q ≤ 1000000000000000) : wfI q := by
  simp [wfI, Lit.wf, IntKind.min, IntKind.max, IntKind.signed, IntKind.bits]
  omega
theorem lawI : Keyed Try.prog 3 := int_keyed Try.underlying3
theorem keyI {q : Int} (h : wfI q) : keyOf Try.prog 3 (.int .i64 q) = some (.int .i64 q) := keyOf_int_mk Try.underlying3 h
theorem zeroMk (w : World) : (zeroValue 67).run Try.prog w = .ok (mkMv (0, 0, none, 0, 0)) w := by kernel_rfl
/-- The map at block m holds the table T's keys, of the states ks. -/
def MpK (w : World) (m : Nat) (T : Tbl) (ks : List Int) : Prop :=
  ∃ D : DataW Value, w.ownsMap Try.prog 3 rdM m ks.length D ∧ Maps.size D = ks.length ∧ ks.Nodup ∧ (∀ q, T q ≠ none ↔ q ∈ ks) ∧ (∀ q, q ∈ ks → wfI q) ∧
    ∀ q, wfI q → (∀ k, T q = some k → Maps.has D (.int .i64 q) = true ∧ ∃ x : Mv, (∀ zd, D.atKey (.int .i64 q) zd = .held (mkMv x)) ∧ MkIs w (mkMv x) (q, k)) ∧ (T q = none → Maps.has D (.int .i64 q) = false)
theorem MpK.isMap {w : World} {m : Nat} {T : Tbl} {ks : List Int} (h : MpK w m T ks) : ∃ es c, w.heap[m]? = some (.map es c) := by
  obtain ⟨D, ⟨es, c, hb, _⟩, _⟩ := h
  exact ⟨es, c, hb⟩
theorem MpK.lt {w : World} {m : Nat} {T : Tbl} {ks : List Int} (h : MpK w m T ks) : m < w.heap.size := by obtain ⟨D, h, _⟩ := h; exact h.lt
theorem MpK.keep {w w' : World} {m : Nat} {T : Tbl} {ks : List Int} (h : MpK w m T ks) (e : w'.heap[m]? = w.heap[m]?) (hk : Keeps w w') : MpK w' m T ks := by
  obtain ⟨D, ⟨es, c, hb, h0⟩, h1, h2, h3, h4, h5⟩ := h
  refine ⟨D, ⟨es, c, e.trans hb, h0⟩, h1, h2, h3, h4, fun q hq => ⟨fun k hT => ?_, (h5 q hq).2⟩⟩
  obtain ⟨g1, x, g2, g3⟩ := (h5 q hq).1 k hT
  exact ⟨g1, x, g2, g3.keeps hk⟩
theorem MpK.below {w w' : World} {m : Nat} {T : Tbl} {ks : List Int} (h : MpK w m T ks) (hb : Below w.heap.size w w') : MpK w' m T ks := h.keep (hb.block m h.lt) (.below hb)
theorem MpK.grown {w w' : World} {m m2 : Nat} {T T2 : Tbl} {ks ks2 : List Int} (h : MpK w m T ks) (h2 : MpK w m2 T2 ks2) (hg : w.grownBy w' (some m2)) (hne : m ≠ m2) : MpK w' m T ks := by
  obtain ⟨es, c, hb⟩ := h2.isMap
  exact h.keep (hg.block m h.lt (by simpa using hne)) (.grown hg hb)
theorem MpK.keeps {w w' : World} {m : Nat} {T : Tbl} {ks : List Int} (h : MpK w m T ks) (hg : w.grownBy w' (some m)) : Keeps w w' := by
  obtain ⟨es, c, hb⟩ := h.isMap
  exact .grown hg hb
theorem MpK.made (w : World) : MpK (w.alloc (.map #[] 0)) w.heap.size (fun _ => none) [] :=
  ⟨_, World.ownsMap_made w _ _ _, rfl, List.nodup_nil, fun q => by simp, fun q h => (by cases h), fun q hq => ⟨fun k h => (by cases h), fun _ => rfl⟩⟩
theorem MpK.ne {w : World} {m b : Nat} {T : Tbl} {ks : List Int} (h : MpK w m T ks) {cs : Array Value} {t : TypeId} (hb : Blk w b cs t) : b ≠ m := by
  obtain ⟨es, c, hm⟩ := h.isMap
  intro e
  subst e
  unfold Blk at hb
  rw [hm] at hb
  cases hb
theorem MpK.tight {w : World} {m n : Nat} {D : DataW Value} (h : w.ownsMap Try.prog 3 rdM m n D) : w.ownsMap Try.prog 3 rdM m (Maps.size D) D := by
  obtain ⟨es, c, hb, F, hn, rfl⟩ := h
  exact ⟨es, c, hb, F, by simp [Maps.size, length_sorted], rfl⟩
def mapLen (w : World) (m : Nat) : Nat := match w.heap[m]? with
  | some (.map es _) => es.size
  | _ => 0
theorem MpK.len {w : World} {m : Nat} {T : Tbl} {ks : List Int} (h : MpK w m T ks) : mapLen w m = ks.length := by
  obtain ⟨D, ⟨es, c, hb, F, _, rfl⟩, h2, _⟩ := h
  rw [← h2]
  unfold mapLen
  rw [hb]
  simp [Maps.size, length_sorted]
/-- v, ok := m[q]. -/
theorem MpK.look {w : World} {m : Nat} {T : Tbl} {ks : List Int} (h : MpK w m T ks) {q : Int} (hq : wfI q) :
    (∀ k, T q = some k → ∃ x : Mv, (Instr.lookup 61 (.map (some m)) (.int .i64 q) true).run Try.prog w = .ok (.tuple #[mkMv x, .bool true]) w ∧ MkIs w (mkMv x) (q, k)) ∧
    (T q = none → (Instr.lookup 61 (.map (some m)) (.int .i64 q) true).run Try.prog w = .ok (.tuple #[mkMv (0, 0, none, 0, 0), .bool false]) w) := by
  obtain ⟨D, h1, h2, h3, h4, h5, h6⟩ := h
  obtain ⟨v, ps, hr, hv⟩ := World.ownsMap.look_ok h1 lawI Try.underlying61 (zeroMk w) (rdM_mk _) (keyI hq)
  constructor
  · intro k hT
    obtain ⟨g1, x, g2, g3⟩ := (h6 q hq).1 k hT
    rw [g2] at hv
    obtain ⟨x', rfl, e⟩ := rdM_inv hv
    simp only [Prod.mk.injEq, DataW.held.injEq] at e
    rw [g1, ← e.1] at hr
    exact ⟨x, hr, g3⟩
  · intro hT
    have g1 := (h6 q hq).2 hT
    rw [g1] at hr
    have hz : D.atKey (.int .i64 q) (.held (mkMv (0, 0, none, 0, 0))) = .held (mkMv (0, 0, none, 0, 0)) := atKey_of_not_has g1 _
    rw [hz] at hv
    obtain ⟨x', rfl, e⟩ := rdM_inv hv
    simp only [Prod.mk.injEq, DataW.held.injEq] at e
    rw [← e.1] at hr
    exact hr
theorem ltr_ne {p q : Int} (h : p ≠ q) : (Lit.int .i64 p) ≠ (Lit.int .i64 q) := fun e => h (by injection e)
/-- m[q] = v. -/
theorem MpK.put {w : World} {m : Nat} {T : Tbl} {ks : List Int} (h : MpK w m T ks) {q : Int} (hq : wfI q) {k : Ky} {v : Value} (hv : MkIs w v (q, k)) (hl : ks.length < 1000000) :
    ∃ w', (Instr.mapUpdate 61 (.map (some m)) (.int .i64 q) v).run Try.prog w = .ok () w' ∧ MpK w' m (setT T q k) (if q ∈ ks then ks else ks ++ [q]) ∧ w.grownBy w' (some m) := by
  have hmap := h
  obtain ⟨D, h1, h2, h3, h4, h5, h6⟩ := h
  obtain ⟨a, c, rfl, hn⟩ := hv.mv
  obtain ⟨w', hu, ho, hg⟩ := World.ownsMap.update (R := rdM) h1 lawI Try.underlying61 (by unfold maxLen; omega) (keyI hq) (rdM_mk _)
  have hk : Keeps w w' := hmap.keeps hg
  have hsz : Maps.size (D.put (.int .i64 q) (.held (mkMv (q, k.1, a, k.2.length, c)))) = (if q ∈ ks then ks else ks ++ [q]).length := by
    rw [size_put (h1.tidy lawI), h2]
    by_cases e : q ∈ ks
    · rw [if_pos e]
      obtain ⟨k', hk'⟩ := Option.ne_none_iff_exists'.1 ((h4 q).2 e)
      rw [if_pos ((h6 q hq).1 k' hk').1]
    · rw [if_neg e]
      have hT : T q = none := by
        by_cases hn : T q = none
        · exact hn
        · exact absurd ((h4 q).1 hn) e
      rw [(h6 q hq).2 hT]
      simp
  refine ⟨w', hu, ⟨_, by rw [← hsz]; exact MpK.tight ho, hsz, ?_, ?_, ?_, ?_⟩, hg⟩
  · by_cases e : q ∈ ks
    · rw [if_pos e]; exact h3
    · rw [if_neg e, List.nodup_append]
      refine ⟨h3, by simp, ?_⟩
      intro x hx y hy
      rw [List.mem_singleton] at hy
      subst hy
      rintro rfl
      exact e hx
  · intro p
    unfold setT
    by_cases e : p = q
    · subst e
      rw [if_pos rfl]
      by_cases e2 : p ∈ ks
      · simp [e2]
      · simp [e2]
    · rw [if_neg e, h4]
      by_cases e2 : q ∈ ks
      · simp [e2]
      · simp [e2, e]
  · intro p hp
    by_cases e2 : q ∈ ks
    · rw [if_pos e2] at hp; exact h5 p hp
    · rw [if_neg e2, List.mem_append, List.mem_singleton] at hp
      rcases hp with hp | rfl
      · exact h5 p hp
      · exact hq
  · intro p hp
    unfold setT
    by_cases e : p = q
    · subst e
      rw [if_pos rfl]
      refine ⟨fun k' hk' => ?_, fun hk' => (by cases hk')⟩
      rw [Option.some.injEq] at hk'
      subst hk'
      exact ⟨has_put_same h1.isMap (lawI.key (keyI hp)) _, _, fun zd => atKey_put_same h1.isMap (lawI.key (keyI hp)) _ zd, hv.keeps hk⟩
    · rw [if_neg e]
      refine ⟨fun k' hk' => ?_, fun hk' => (has_put_other (ltr_ne e) _).trans ((h6 p hp).2 hk')⟩
      obtain ⟨g1, x, g2, g3⟩ := (h6 p hp).1 k' hk'
      exact ⟨(has_put_other (ltr_ne e) _).trans g1, x, fun zd => (atKey_put_other (ltr_ne e) _ _).trans (g2 zd), g3.keeps hk⟩
/-- delete(m, q). -/
theorem MpK.delD {w w' : World} {m : Nat} {T : Tbl} {ks : List Int} (h : MpK w m T ks) {D : DataW Value} (hD : w.ownsMap Try.prog 3 rdM m ks.length D) (hk : Keeps w w') {q : Int} {n : Nat} (hq : q ∈ ks) (ho : w'.ownsMap Try.prog 3 rdM m n (D.del (.int .i64 q))) : MpK w' m (delT T q) (ks.erase q) := by
  obtain ⟨D', h1, h2, h3, h4, h5, h6⟩ := h
  obtain rfl : D' = D := by
    obtain ⟨es, c, hb, F, _, rfl⟩ := h1
    obtain ⟨es', c', hb', F', _, rfl⟩ := hD
    rw [hb] at hb'
    simp only [Option.some.injEq, Obj.map.injEq] at hb'
    rw [hb'.1]
  have hwq := h5 q hq
  obtain ⟨k0, hk0⟩ := Option.ne_none_iff_exists'.1 ((h4 q).2 hq)
  have hsz : Maps.size (D'.del (.int .i64 q)) = (ks.erase q).length := by
    have := size_del (k := .int .i64 q) (h1.tidy lawI)
    rw [((h6 q hwq).1 k0 hk0).1, h2] at this
    rw [List.length_erase_of_mem hq]
    simp at this
    omega
  refine ⟨_, by rw [← hsz]; exact MpK.tight ho, hsz, h3.erase q, ?_, fun p hp => h5 p (List.mem_of_mem_erase hp), ?_⟩
  · intro p
    rw [h3.mem_erase_iff, ← h4]
    unfold delT
    by_cases e : p = q
    · simp [e]
    · simp [e]
  · intro p hp
    unfold delT
    by_cases e : p = q
    · subst e
      rw [if_pos rfl]
      exact ⟨fun k' hk' => (by cases hk'), fun _ => has_del_same⟩
    · rw [if_neg e]
      refine ⟨fun k' hk' => ?_, fun hk' => (has_del_other (ltr_ne e)).trans ((h6 p hp).2 hk')⟩
      obtain ⟨g1, x, g2, g3⟩ := (h6 p hp).1 k' hk'
      exact ⟨(has_del_other (ltr_ne e)).trans g1, x, fun zd => (atKey_del_other (ltr_ne e) _).trans (g2 zd), g3.keeps hk⟩
end Go.Proofs.Ytkeeiihaijhdoaa.Sm
