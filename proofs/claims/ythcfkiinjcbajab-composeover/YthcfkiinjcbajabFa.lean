/- A map by triples: the place of each of them. -/
import Derived.Test.YthcfkiinjcbajabHz
import Derived.Test.YthcfkiinjcbajabRg
import Derived.Maps.Own
import Derived.Maps.OwnSet
import Derived.Maps.Views
import Derived.WideKeyEntry
import Derived.DeepKeys3
import Derived.BigQuiet
namespace Go.Proofs.Ythcfkiinjcbajab.Wt
open Go.ChangeShapes Go.WideShapes Go.ChangeAt Go.RowKit Go.Maps
open Go.Proofs.Ythcfkiinjcbajab.Pl
set_option linter.unusedVariables false
set_option linter.unusedSimpArgs false
def trV (k : Tr) : Value := .agg #[.int .i64 k.1, .int .i64 k.2.1, .int .i64 k.2.2]
set_option maxRecDepth 100000 in
theorem lawTrK : Go.WideMaps.KeyLaw Try.prog 59 := Go.deep_law (m := 2) (by omega) (by kernel_rfl) (by kernel_rfl) (by kernel_rfl)
set_option maxRecDepth 100000 in
theorem lawTr : Keyed Try.prog 59 := Keyed.of_law lawTrK
def SmT (k : Tr) : Prop := 0 ≤ k.1 ∧ k.1 ≤ 1000 ∧ 0 ≤ k.2.1 ∧ k.2.1 ≤ 1000 ∧ 0 ≤ k.2.2 ∧ k.2.2 ≤ 1000
theorem wfSmT {n : Int} (h0 : 0 ≤ n) (h : n ≤ 100000000000000) : (Lit.int .i64 n).wf = true := by
  simp [Lit.wf, IntKind.min, IntKind.max, IntKind.signed, IntKind.bits]
  omega
set_option maxRecDepth 100000 in
theorem keyTr {p : Tr} (h : SmT p) : ∃ kl, keyOf Try.prog 59 (trV p) = some kl := by
  obtain ⟨h1, h2, h3, h4, h5, h6⟩ := h
  have w1 : (Lit.int .i64 p.1).wf = true := wfSmT h1 (by omega)
  have w2 : (Lit.int .i64 p.2.1).wf = true := wfSmT h3 (by omega)
  have w3 : (Lit.int .i64 p.2.2).wf = true := wfSmT h5 (by omega)
  unfold trV
  generalize p.1 = x at *
  generalize p.2.1 = y at *
  generalize p.2.2 = z at *
  have h1 : Try.prog.keyType 59 = true := by kernel_rfl
  have hc : Try.prog.cellsOf 59 = 3 := by kernel_rfl
  have hi : Try.prog.cellsOf 3 = 1 := by kernel_rfl
  have h2 : (Value.agg #[.int .i64 x, .int .i64 y, .int .i64 z]).formed Try.prog 59 = true := by simp [Value.formed, Try.underlying59, hc]
  obtain ⟨n, hn⟩ : ∃ n, Try.prog.types.size + 1 = n + 1 + 1 := ⟨Try.prog.types.size - 1, by kernel_rfl⟩
  have h3 : Try.prog.keyLits (Try.prog.types.size + 1) 59 [.int .i64 x, .int .i64 y, .int .i64 z] = some [.int .i64 x, .int .i64 y, .int .i64 z] := by
    rw [hn]
    simp [Program.keyLits, Try.underlying59, Try.underlying3, hc, hi, w1, w2, w3]
  refine ⟨.string (keyBytes [.int .i64 x, .int .i64 y, .int .i64 z]), ?_⟩
  unfold keyOf
  rw [Try.underlying59]
  simp only [h1, h2, Bool.and_self, if_true, Value.cells, h3, Option.map_some]
theorem trV_one {p q : Tr} (h : trV p = trV q) : p = q := by
  obtain ⟨a, b, c⟩ := p
  obtain ⟨a', b', c'⟩ := q
  simp [trV] at h
  simp only [Prod.mk.injEq]
  omega
theorem keyTr_inj {p q : Tr} {kl : Lit} (h : keyOf Try.prog 59 (trV p) = some kl) (h' : keyOf Try.prog 59 (trV q) = some kl) : p = q := trV_one (lawTr.inj h h')
/-- The map at block m tells of each of these keys where it stands, and of no others. -/
def TrM (w : World) (m : Nat) (ks : List Tr) : Prop :=
  ∃ D : DataW Unit, w.ownsMap Try.prog 59 (plainElem Try.prog 3) m ks.length D ∧ Maps.size D = ks.length ∧
    ∀ p kl, keyOf Try.prog 59 (trV p) = some kl → (∀ i, i < ks.length → el ks i = p → has D kl = true ∧ D.atKey kl (.lit (.int .i64 0)) = .lit (.int .i64 (i : Int))) ∧ (p ∉ ks → has D kl = false ∧ D.atKey kl (.lit (.int .i64 0)) = .lit (.int .i64 0))
theorem TrM.lt {w : World} {m : Nat} {ks : List Tr} (h : TrM w m ks) : m < w.heap.size := by obtain ⟨D, h, _⟩ := h; exact h.lt
theorem TrM.made (w : World) : TrM (w.alloc (.map #[] 0)) w.heap.size [] :=
  ⟨_, World.ownsMap_made w _ _ _, rfl, fun p kl h => ⟨fun i hi => absurd hi (by simp), fun _ => ⟨rfl, by simp [DataW.atKey]⟩⟩⟩
theorem TrM.keep {w w' : World} {m : Nat} {ks : List Tr} (h : TrM w m ks) (e : w'.heap[m]? = w.heap[m]?) : TrM w' m ks := by
  obtain ⟨D, ⟨es, clock, hb, h0⟩, h1⟩ := h
  exact ⟨D, ⟨es, clock, e.trans hb, h0⟩, h1⟩
theorem TrM.neBlk {w : World} {m b : Nat} {ks : List Tr} (h : TrM w m ks) {cs : Array Value} {t : TypeId} (hb : Blk w b cs t) : m ≠ b := by
  obtain ⟨D, h, _⟩ := h
  exact Ne.symm (map_ne_blk hb h)
theorem TrM.neRow {w : World} {m base : Nat} {ks : List Tr} {e : TypeId} {s : Nat} {v : Value} {n : Nat} {xs : List Value} (h : TrM w m ks) (ho : w.ownsRow base e s v n xs) : some m ≠ v.ownBlock := by
  obtain ⟨D, ⟨es, clock, hb, _⟩, _⟩ := h
  rcases ho.2 with ⟨rfl, _⟩ | ⟨g, cap', cur, rfl, hbg, hg, _⟩
  · simp [Value.ownBlock]
  · simp only [Value.ownBlock]
    intro e2
    simp at e2
    subst e2
    rw [hb] at hg
    cases hg
theorem zeroTr (w : World) : (zeroValue 3).run Try.prog w = .ok (.int .i64 0) w := by kernel_rfl
set_option maxRecDepth 100000 in
theorem TrM.look {w : World} {m : Nat} {ks : List Tr} (h : TrM w m ks) {p : Tr} (hp : SmT p) :
    (∃ i, i < ks.length ∧ el ks i = p ∧ (Instr.lookup 53 (.map (some m)) (.agg #[.int .i64 p.1, .int .i64 p.2.1, .int .i64 p.2.2]) true).run Try.prog w = .ok (.tuple #[.int .i64 (i : Int), .bool true]) w) ∨
    (p ∉ ks ∧ (Instr.lookup 53 (.map (some m)) (.agg #[.int .i64 p.1, .int .i64 p.2.1, .int .i64 p.2.2]) true).run Try.prog w = .ok (.tuple #[.int .i64 0, .bool false]) w) := by
  obtain ⟨D, h1, _, h3⟩ := h
  obtain ⟨kl, hk⟩ := keyTr hp
  obtain ⟨v, ps, hr, hv⟩ := World.ownsMap.look_ok h1 lawTr Try.underlying53 (zeroTr w) (plainElem_int Try.underlying3 (by decide)) hk
  obtain ⟨c, rfl, hc, _⟩ := plainElem_int_inv Try.underlying3 hv
  have hc' := congrArg Prod.fst hc
  simp only at hc'
  obtain ⟨g1, g2⟩ := h3 p kl hk
  by_cases he : p ∈ ks
  · obtain ⟨i, hi, hd⟩ := mem_el he
    obtain ⟨k1, k2⟩ := g1 i hi hd
    left
    refine ⟨i, hi, hd, ?_⟩
    rw [k2] at hc'
    rw [k1] at hr
    injection hc' with e1
    injection e1 with _ e2
    rw [← e2] at hr
    exact hr
  · right
    rw [(g2 he).1] at hr
    rw [(g2 he).2] at hc'
    injection hc' with e1
    injection e1 with _ e2
    rw [← e2] at hr
    exact ⟨he, hr⟩
set_option maxRecDepth 100000 in
theorem TrM.put {w : World} {m : Nat} {ks : List Tr} (h : TrM w m ks) {p : Tr} (hp : SmT p) (hno : p ∉ ks) (hn : ks.length < 100000) :
    ∃ w', (Instr.mapUpdate 53 (.map (some m)) (.agg #[.int .i64 p.1, .int .i64 p.2.1, .int .i64 p.2.2]) (.int .i64 (ks.length : Int))).run Try.prog w = .ok () w' ∧ TrM w' m (ks ++ [p]) ∧ w.grownBy w' (some m) := by
  obtain ⟨D, h1, h2, h3⟩ := h
  obtain ⟨kl, hk⟩ := keyTr hp
  obtain ⟨w', hu, ho, hg⟩ := World.ownsMap.update (R := plainElem Try.prog 3) h1 lawTr Try.underlying53 (by unfold maxLen; omega) hk (plainElem_int Try.underlying3 (wfSmT (n := (ks.length : Int)) (by omega) (by omega)))
  refine ⟨w', hu, ⟨_, by rw [List.length_append]; exact ho, ?_, fun q kl' hk' => ?_⟩, hg⟩
  · rw [size_put (h1.tidy lawTr), ((h3 p kl hk).2 hno).1, h2]
    simp
  · by_cases e : q = p
    · subst e
      have : kl' = kl := by rw [hk] at hk'; injection hk' with h; exact h.symm
      subst this
      refine ⟨fun i hi hd => ⟨has_put_same h1.isMap (lawTr.key hk) _, ?_⟩, fun hq => absurd (List.mem_append_right _ List.mem_cons_self) hq⟩
      rw [atKey_put_same h1.isMap (lawTr.key hk)]
      rw [List.length_append] at hi
      simp at hi
      by_cases ei : i < ks.length
      · rw [el_left ei] at hd
        exact absurd (hd ▸ el_mem ei) hno
      · obtain rfl : i = ks.length := by omega
        rfl
    · have hne : kl' ≠ kl := fun h => by
        subst h
        exact e (keyTr_inj hk' hk)
      obtain ⟨g1, g2⟩ := h3 q kl' hk'
      refine ⟨fun i hi hd => ?_, fun hq => ?_⟩
      · rw [List.length_append] at hi
        simp at hi
        by_cases ei : i < ks.length
        · rw [el_left ei] at hd
          obtain ⟨k1, k2⟩ := g1 i ei hd
          exact ⟨(has_put_other hne _).trans k1, (atKey_put_other hne _ _).trans k2⟩
        · obtain rfl : i = ks.length := by omega
          rw [el_last] at hd
          exact absurd hd.symm e
      · obtain ⟨k1, k2⟩ := g2 fun hd => hq (List.mem_append_left _ hd)
        exact ⟨(has_put_other hne _).trans k1, (atKey_put_other hne _ _).trans k2⟩
end Go.Proofs.Ythcfkiinjcbajab.Wt
