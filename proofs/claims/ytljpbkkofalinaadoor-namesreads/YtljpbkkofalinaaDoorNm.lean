/- Slices of names in memory, as lists; the statement's own copy of one, and its comparison of two. -/
import Derived.Test.YtljpbkkofalinaaDoorRows
import Derived.Test.YtljpbkkofalinaaDoorPlainM
import Derived.WalkKit
import Derived.ProofKit
import Derived.OpenShut
import Derived.Below
import Derived.SizedLaws
import Derived.Handy
import Derived.Laws.AppendOwnNone
import Derived.BigQuiet
import Derived.Deep.QuietTactic
import Derived.WalkSmall
namespace Go.Proofs.YtljpbkkofalinaaDoor.Wt
open Go.ChangeShapes Go.WideShapes Go.ChangeAt Go.RowKit
open Go.Proofs.YtljpbkkofalinaaDoor.Pl
set_option linter.unusedVariables false

/-- The slice value v holds the names ns. -/
def Nms (w : World) (v : Value) (ns : List Nm) : Prop :=
  (v = .slice none 0 0 ∧ ns = []) ∨
  ∃ (x : Addr) (cap : Nat), v = .slice (some x) ns.length cap ∧ ∀ j, j < ns.length → w.cell? (x.add (j * 2)) = some (.string (nm ns j).1) ∧ w.cell? (x.add (j * 2 + 1)) = some (.int .i64 (nm ns j).2)
theorem Nms.later {w w' : World} {v : Value} {ns : List Nm} (h : Nms w v ns) {B : Nat} (hb : Below B w w') (hB : w.heap.size ≤ B) : Nms w' v ns := by
  rcases h with h | ⟨x, cap, hv, hc⟩
  · exact .inl h
  · exact .inr ⟨x, cap, hv, fun j hj => ⟨(hb.cell (Nat.lt_of_lt_of_le (World.block_lt_of_cell? _ _ (hc j hj).1) hB)).trans (hc j hj).1, (hb.cell (Nat.lt_of_lt_of_le (World.block_lt_of_cell? _ _ (hc j hj).2) hB)).trans (hc j hj).2⟩⟩
/-- Where there is an element the address is a plain one. -/
theorem Nms.plain {w : World} {v : Value} {ns : List Nm} (h : Nms w v ns) (hz : 0 < ns.length) :
    ∃ b off cap, v = .slice (some ⟨b, off, none⟩) ns.length cap ∧ b < w.heap.size ∧ ∀ j, j < ns.length → w.cell? ⟨b, off + j * 2, none⟩ = some (.string (nm ns j).1) ∧ w.cell? ⟨b, off + j * 2 + 1, none⟩ = some (.int .i64 (nm ns j).2) := by
  rcases h with ⟨_, rfl⟩ | ⟨x, cap, hv, hc⟩
  · simp at hz
  · obtain ⟨b, off, spot⟩ := x
    have hs : spot = none := by simpa [Addr.add] using World.cell?_spot (hc 0 hz).1
    subst hs
    refine ⟨b, off, cap, hv, World.block_lt_of_cell? _ _ (hc 0 hz).1, fun j hj => ?_⟩
    have := hc j hj
    rw [Addr.add_lit, Addr.add_lit, ← Nat.add_assoc] at this
    exact this
theorem Nms.empty {w : World} {v : Value} (h : Nms w v []) : ∃ a cap, v = .slice a 0 cap := by
  rcases h with ⟨h, _⟩ | ⟨x, cap, hv, _⟩
  · exact ⟨_, _, h⟩
  · exact ⟨_, _, hv⟩
theorem Nms.sl {w : World} {v : Value} {ns : List Nm} (h : Nms w v ns) : ∃ a cap, v = .slice a ns.length cap := by
  rcases h with ⟨h, rfl⟩ | ⟨x, cap, hv, _⟩
  · exact ⟨_, _, h⟩
  · exact ⟨_, _, hv⟩
def cellsOfNames (ns : List Nm) : List Value := ns.flatMap fun p => [Value.string p.1, Value.int .i64 p.2]
theorem cells_length (ns : List Nm) : (cellsOfNames ns).length = ns.length * 2 := by
  induction ns with
  | nil => rfl
  | cons p l ih => simp [cellsOfNames] at ih ⊢; omega
theorem cells_at (ns : List Nm) : ∀ j, j < ns.length → (cellsOfNames ns)[j * 2]? = some (.string (nm ns j).1) ∧ (cellsOfNames ns)[j * 2 + 1]? = some (.int .i64 (nm ns j).2) := by
  induction ns with
  | nil => intro j h; simp at h
  | cons p l ih =>
    intro j hj
    cases j with
    | zero => simp [cellsOfNames, nm]
    | succ j =>
      have := ih j (by simpa using hj)
      have e1 : (j + 1) * 2 = j * 2 + 2 := by omega
      simp only [cellsOfNames] at this
      simp [cellsOfNames, e1, nm] at this ⊢
      exact this
theorem Nms.ofOwn {w : World} {base : Nat} {e : TypeId} {v : Value} {n : Nat} {ns : List Nm} (h : w.ownsRow base e 2 v n (cellsOfNames ns)) : Nms w v ns := by
  have hlen : ns.length = n := by have := h.1; rw [cells_length] at this; omega
  have hh := h
  rcases h.2 with ⟨hv, hn⟩ | ⟨g, cap, cur, hv, _⟩
  · exact .inl ⟨hv, List.eq_nil_of_length_eq_zero (by omega)⟩
  · refine .inr ⟨⟨g, 0, none⟩, cap, by rw [hlen]; exact hv, fun j hj => ?_⟩
    have hg : v.ownBlock = some g := by rw [hv]; rfl
    exact ⟨hh.cells hg _ _ (cells_at ns j hj).1, hh.cells hg _ _ (cells_at ns j hj).2⟩
theorem own_geN {w : World} {base : Nat} {e : TypeId} {s : Nat} {v : Value} {n : Nat} {xs : List Value} (h : w.ownsRow base e s v n xs) : ∀ k, v.ownBlock = some k → base ≤ k := fun k hk => (h.lt k hk).1

theorem infoName : (Tryd.prog.info? 36).map (fun i => (i.zero, i.size, i.bytes)) = some (some (.agg #[.string ByteArray.empty, .int .i64 0]), 2, 24) := by kernel_rfl

theorem wpList_append_names {P : Program} {w : World} {ops : Array Oper} {rest : List Oper} {o : Oper} {a : Act} {Q : Exit → Act → World → Prop} (hgd : o.guard = none) (s x : Operand) (t : TypeId)
    (ho : o.op = .call { callee := .builtin .append, args := #[s, x], argTypes := #[t, t] })
    (base : Nat) (e : TypeId) (i : TypeInfo) (z : Value) (bytes : Nat) (ht : P.underlying t = some (.slice e)) (hi : P.info? e = some i) (hz : i.zero = some z)
    (hsize : i.size = 2) (hby : i.bytes = bytes) (hzs : z.cells.size = 2)
    (v : Value) (ms : List Nm) (hs : a.eval s = v) (hown : w.ownsRow base e 2 v ms.length (cellsOfNames ms))
    (vx : Value) (ns : List Nm) (hx : a.eval x = vx) (hX : Nms w vx ns)
    (h63 : ms.length + ns.length ≤ maxLen) (hbytes : (ms.length + ns.length) * bytes ≤ 140737488355328) (hbase : base ≤ w.heap.size)
    (h : ∀ v' w', w'.ownsRow base e 2 v' (ms.length + ns.length) (cellsOfNames (ms ++ ns)) → Below base w w' → wpList P ops Q rest (a.put o.dst v') w') : wpList P ops Q (o :: rest) a w := by
  rcases hX with ⟨hv, hzs0⟩ | ⟨ad, cap, hv, hc⟩
  · subst hv; subst hzs0
    refine wpList_append_own_none hgd s x t ho base e i 2 ht hi v _ _ hs hown hx ?_
    exact h v w (by simpa using hown) (Below.refl _ _)
  · subst hv
    refine wpList_append_own _ hgd s x t ho base e i z 2 bytes ht hi hz hsize hby hzs (by decide) v ms.length _ hs hown ad ns.length cap (cellsOfNames ns) hx (cells_length ns) ?_ ?_ h63 hbytes hbase ?_
    · intro j u hj
      have hl : j < ns.length * 2 := by
        rcases Nat.lt_or_ge j (ns.length * 2) with h | h
        · exact h
        · rw [List.getElem?_eq_none (by rw [cells_length]; exact h)] at hj; simp at hj
      have h1 := hc (j / 2) (by omega)
      have h2 := cells_at ns (j / 2) (by omega)
      rcases Nat.mod_two_eq_zero_or_one j with hm | hm
      · have e1 : j / 2 * 2 = j := by omega
        rw [e1] at h1 h2
        rw [h2.1] at hj
        rw [h1.1]; exact hj
      · have e1 : j / 2 * 2 + 1 = j := by omega
        rw [e1] at h1 h2
        rw [h2.2] at hj
        rw [h1.2]; exact hj
    · intro u hu
      simp [cellsOfNames] at hu
      obtain ⟨_, _, _, rfl | rfl⟩ := hu <;> rfl
    · intro v' w' h1 h2 _
      exact h v' w' (by simpa [cellsOfNames] using h1) ((Below.refl _ _).grown h2 hbase (own_geN hown))
end Go.Proofs.YtljpbkkofalinaaDoor.Wt
