/- Slices of structs in memory, as lists; machines in memory. -/
import Derived.Test.YtkeeiihaijhdoaaRows
import Derived.Test.YtkeeiihaijhdoaaPlainK
import Derived.WalkKit
import Derived.ProofKit
import Derived.OpenShut
import Derived.Below
import Derived.SizedLaws
import Derived.Handy
import Derived.Laws.AppendOwnNone
import Derived.Deep.AppendLies
import Derived.BigQuiet
import Derived.Deep.QuietTactic
import Derived.WalkSmall
namespace Go.Proofs.Ytkeeiihaijhdoaa.Wt
open Go.ChangeShapes Go.WideShapes Go.ChangeAt Go.RowKit
open Go.Proofs.Ytkeeiihaijhdoaa.Pl
set_option linter.unusedVariables false

theorem flat_length {α : Type} {k : Nat} {enc : α → List Value} (hk : ∀ x, (enc x).length = k) (xs : List α) : (xs.flatMap enc).length = xs.length * k := by
  induction xs with
  | nil => simp
  | cons p l ih => simp [ih, hk, Nat.add_mul]; omega
section
variable {α : Type} [Inhabited α] {k : Nat} {enc : α → List Value} {w w' : World} {v : Value} {xs : List α}
/-- The slice value v holds the structs xs, of k cells each. -/
def Row (k : Nat) (enc : α → List Value) (w : World) (v : Value) (xs : List α) : Prop :=
  (v = .slice none 0 0 ∧ xs = []) ∨
  ∃ (x : Addr) (cap : Nat), v = .slice (some x) xs.length cap ∧ ∀ j, j < xs.length → ∀ (i : Nat) u, (enc (el xs j))[i]? = some u → w.cell? (x.add (j * k + i)) = some u
theorem Row.later (h : Row k enc w v xs) {B : Nat} (hb : Below B w w') (hB : w.heap.size ≤ B) : Row k enc w' v xs := by
  rcases h with h | ⟨x, cap, hv, hc⟩
  · exact .inl h
  · exact .inr ⟨x, cap, hv, fun j hj i u hu => (hb.cell (Nat.lt_of_lt_of_le (World.block_lt_of_cell? _ _ (hc j hj i u hu)) hB)).trans (hc j hj i u hu)⟩
theorem Row.plain (h : Row k enc w v xs) (he : ∀ x, 0 < (enc x).length) (hz : 0 < xs.length) :
    ∃ b off cap, v = .slice (some ⟨b, off, none⟩) xs.length cap ∧ b < w.heap.size ∧ ∀ j, j < xs.length → ∀ (i : Nat) u, (enc (el xs j))[i]? = some u → w.cell? ⟨b, off + j * k + i, none⟩ = some u := by
  rcases h with ⟨_, rfl⟩ | ⟨x, cap, hv, hc⟩
  · simp at hz
  · obtain ⟨b, off, spot⟩ := x
    have h0 := hc 0 hz 0 _ (List.getElem?_eq_getElem (he (el xs 0)))
    have hs : spot = none := by simpa [Addr.add] using World.cell?_spot h0
    subst hs
    refine ⟨b, off, cap, hv, by have h1 := World.block_lt_of_cell? _ _ h0; rw [Addr.add_lit] at h1; exact h1, fun j hj i u hu => ?_⟩
    have := hc j hj i u hu
    rw [Addr.add_lit, ← Nat.add_assoc] at this
    exact this
theorem Row.empty (h : Row k enc w v ([] : List α)) : ∃ a cap, v = .slice a 0 cap := by
  rcases h with ⟨h, _⟩ | ⟨x, cap, hv, _⟩
  · exact ⟨_, _, h⟩
  · exact ⟨_, _, hv⟩
theorem Row.sl (h : Row k enc w v xs) : ∃ a cap, v = .slice a xs.length cap := by
  rcases h with ⟨h, rfl⟩ | ⟨x, cap, hv, _⟩
  · exact ⟨_, _, h⟩
  · exact ⟨_, _, hv⟩
theorem flat_at (hk : ∀ x, (enc x).length = k) (xs : List α) : ∀ j, j < xs.length → ∀ i, i < k → (xs.flatMap enc)[j * k + i]? = (enc (el xs j))[i]? := by
  induction xs with
  | nil => intro j h; simp at h
  | cons p l ih =>
    intro j hj i hi
    cases j with
    | zero =>
      rw [el_zero, List.flatMap_cons, Nat.zero_mul, Nat.zero_add, List.getElem?_append_left (by rw [hk]; exact hi)]
    | succ j =>
      have := ih j (by simpa using hj) i hi
      rw [el_succ, List.flatMap_cons, List.getElem?_append_right (by rw [hk, Nat.add_mul]; omega), ← this, hk]
      congr 1
      rw [Nat.add_mul]; omega
theorem Row.ofOwn (hk : ∀ x, (enc x).length = k) {base : Nat} {e : TypeId} {n : Nat} (h : w.ownsRow base e k v n (xs.flatMap enc)) (hn : xs.length = n) : Row k enc w v xs := by
  have hh := h
  rcases h.2 with ⟨hv, hn0⟩ | ⟨g, cap, cur, hv, _⟩
  · exact .inl ⟨hv, List.eq_nil_of_length_eq_zero (by omega)⟩
  · refine .inr ⟨⟨g, 0, none⟩, cap, by rw [hn]; exact hv, fun j hj i u hu => ?_⟩
    have hg : v.ownBlock = some g := by rw [hv]; rfl
    have hi : i < k := by
      rcases Nat.lt_or_ge i k with h | h
      · exact h
      · rw [List.getElem?_eq_none (by rw [hk]; exact h)] at hu; simp at hu
    exact hh.cells hg _ _ ((flat_at hk xs j hj i hi).trans hu)
end
theorem own_geK {w : World} {base : Nat} {e : TypeId} {s : Nat} {v : Value} {n : Nat} {xs : List Value} (h : w.ownsRow base e s v n xs) : ∀ k, v.ownBlock = some k → base ≤ k := fun k hk => (h.lt k hk).1
/-- Rows of other kinds of elements lie apart. -/
theorem own_apart {w : World} {b1 b2 : Nat} {e1 e2 : TypeId} {s1 s2 : Nat} {v1 v2 : Value} {n1 n2 : Nat} {xs1 xs2 : List Value} (h1 : w.ownsRow b1 e1 s1 v1 n1 xs1) (h2 : w.ownsRow b2 e2 s2 v2 n2 xs2) (hne : e1 ≠ e2) : v1.ownBlock = none ∨ v1.ownBlock ≠ v2.ownBlock := by
  rcases h1.2 with ⟨hv, _⟩ | ⟨g, cap, cur, hv, _, hg, _⟩
  · left; rw [hv]; rfl
  · right
    rcases h2.2 with ⟨hv2, _⟩ | ⟨g2, cap2, cur2, hv2, _, hg2, _⟩
    · rw [hv, hv2]; simp [Value.ownBlock]
    · rw [hv, hv2]
      intro e
      simp [Value.ownBlock] at e
      rw [e, hg2] at hg
      injection hg with hg
      injection hg with _ hg _
      exact hne hg.symm

section
variable {α : Type} [Inhabited α] {k : Nat} {enc : α → List Value}
/-- What a slice of structs that is appended lays. -/
theorem row_news (hk : ∀ x, (enc x).length = k) (hk0 : 0 < k) {w : World} {ad : Addr} {ns : List α} (hc : ∀ j, j < ns.length → ∀ (i : Nat) u, (enc (el ns j))[i]? = some u → w.cell? (ad.add (j * k + i)) = some u) :
    ∀ j u, (ns.flatMap enc)[j]? = some u → w.cell? (ad.add j) = some u := by
  intro j u hj
  have hl : j < ns.length * k := by
    rcases Nat.lt_or_ge j (ns.length * k) with h | h
    · exact h
    · rw [List.getElem?_eq_none (by rw [flat_length hk]; exact h)] at hj; simp at hj
  have hq : j / k < ns.length := (Nat.div_lt_iff_lt_mul hk0).2 hl
  have hm : j % k < k := Nat.mod_lt _ hk0
  have he : j / k * k + j % k = j := by rw [Nat.mul_comm]; exact Nat.div_add_mod j k
  have h1 := hc (j / k) hq (j % k) u
  have h2 := flat_at hk ns (j / k) hq (j % k) hm
  rw [he] at h1 h2
  exact h1 (h2 ▸ hj)
theorem run_append_rows {P : Program} {w : World} (hk : ∀ x, (enc x).length = k) (hk0 : 0 < k) (h1c : ∀ x, ∀ u ∈ enc x, u.oneCell' = true) (t ty : TypeId)
    (base : Nat) (e : TypeId) (i : TypeInfo) (z : Value) (bytes : Nat) (ht : P.underlying t = some (.slice e)) (hi : P.info? e = some i) (hz : i.zero = some z)
    (hsize : i.size = k) (hby : i.bytes = bytes) (hzs : z.cells.size = k)
    (v : Value) (n : Nat) (ms : List Value) (hown : w.ownsRow base e k v n ms) (vx : Value) (ns : List α) (hX : Row k enc w vx ns)
    (h63 : n + ns.length ≤ maxLen) (hbytes : (n + ns.length) * bytes ≤ 140737488355328) (hbase : base ≤ w.heap.size) :
    ∃ v' w', (Builtin.append_ #[t, t] ty #[v, vx]).run P w = .ok v' w' ∧ w'.ownsRow base e k v' (n + ns.length) (ms ++ ns.flatMap enc) ∧ w.grownBy w' v.ownBlock := by
  rcases hX with ⟨hv, hzs0⟩ | ⟨ad, cap, hv, hc⟩
  · subst hv; subst hzs0
    exact ⟨v, w, run_append_owned_none (P := P) (w := w) base t ty e i k ht hi v n ms hown, by simpa using hown, World.grownBy.refl _ _⟩
  · subst hv
    obtain ⟨v', w', h1, h2, h3, _⟩ := run_append_own (P := P) w base t ty e i z k bytes ht hi hz hsize hby hzs hk0 v n ms hown ad ns.length cap (ns.flatMap enc) (flat_length hk ns) (row_news hk hk0 hc) (by
      intro u hu
      simp only [List.mem_flatMap] at hu
      obtain ⟨y, _, hy⟩ := hu
      exact h1c y u hy) h63 hbytes hbase
    exact ⟨v', w', h1, h2, h3⟩
theorem wp_append_rows {P : Program} {w : World} {o : Oper} {a : Act} {K : Act → World → Prop} {Q : Exit → Act → World → Prop} (hk : ∀ x, (enc x).length = k) (hk0 : 0 < k) (h1c : ∀ x, ∀ u ∈ enc x, u.oneCell' = true) (s x : Operand) (t : TypeId)
    (ho : o.op = .call { callee := .builtin .append, args := #[s, x], argTypes := #[t, t] })
    (base : Nat) (e : TypeId) (i : TypeInfo) (z : Value) (bytes : Nat) (ht : P.underlying t = some (.slice e)) (hi : P.info? e = some i) (hz : i.zero = some z)
    (hsize : i.size = k) (hby : i.bytes = bytes) (hzs : z.cells.size = k)
    (v : Value) (n : Nat) (ms : List Value) (hs : a.eval s = v) (hown : w.ownsRow base e k v n ms)
    (vx : Value) (ns : List α) (hx : a.eval x = vx) (hX : Row k enc w vx ns)
    (h63 : n + ns.length ≤ maxLen) (hbytes : (n + ns.length) * bytes ≤ 140737488355328) (hbase : base ≤ w.heap.size)
    (h : ∀ v' w', w'.ownsRow base e k v' (n + ns.length) (ms ++ ns.flatMap enc) → w.grownBy w' v.ownBlock → K (a.put o.dst v') w') : o.wp P a w K Q := by
  obtain ⟨v', w', hr, h2, h3⟩ := run_append_rows hk hk0 h1c t o.type base e i z bytes ht hi hz hsize hby hzs v n ms hown vx ns hX h63 hbytes hbase
  unfold Oper.wp execOp
  simp only [ho, resolve, invoke, builtin, Sem.run_bind, Sem.run_pure, Result.andThen_ok, List.map_toArray, List.map_cons, List.map_nil, hs, hx, hr]
  exact h v' w' h2 h3
theorem wpList_append_rows {P : Program} {w : World} {ops : Array Oper} {rest : List Oper} {o : Oper} {a : Act} {Q : Exit → Act → World → Prop} (hk : ∀ x, (enc x).length = k) (hk0 : 0 < k) (h1c : ∀ x, ∀ u ∈ enc x, u.oneCell' = true) (hgd : o.guard = none) (s x : Operand) (t : TypeId)
    (ho : o.op = .call { callee := .builtin .append, args := #[s, x], argTypes := #[t, t] })
    (base : Nat) (e : TypeId) (i : TypeInfo) (z : Value) (bytes : Nat) (ht : P.underlying t = some (.slice e)) (hi : P.info? e = some i) (hz : i.zero = some z)
    (hsize : i.size = k) (hby : i.bytes = bytes) (hzs : z.cells.size = k)
    (v : Value) (n : Nat) (ms : List Value) (hs : a.eval s = v) (hown : w.ownsRow base e k v n ms)
    (vx : Value) (ns : List α) (hx : a.eval x = vx) (hX : Row k enc w vx ns)
    (h63 : n + ns.length ≤ maxLen) (hbytes : (n + ns.length) * bytes ≤ 140737488355328) (hbase : base ≤ w.heap.size)
    (h : ∀ v' w', w'.ownsRow base e k v' (n + ns.length) (ms ++ ns.flatMap enc) → w.grownBy w' v.ownBlock → wpList P ops Q rest (a.put o.dst v') w') : wpList P ops Q (o :: rest) a w :=
  wpList_plain hgd fun _ hK => wp_append_rows hk hk0 h1c s x t ho base e i z bytes ht hi hz hsize hby hzs v n ms hs hown vx ns hx hX h63 hbytes hbase fun v' w' h2 h3 => hK _ _ (h v' w' h2 h3)
end

/-! Machines. -/
def encA (a : Ar) : List Value := [.int .i64 a.1, .int .i64 a.2.1, .int .i64 a.2.2.1, .int .i64 a.2.2.2]
def encS (s : Int × Value) : List Value := [.int .i64 s.1, s.2]
theorem encA_len (a : Ar) : (encA a).length = 4 := rfl
theorem encS_len (s : Int × Value) : (encS s).length = 2 := rfl
theorem encA_one (a : Ar) : ∀ u ∈ encA a, u.oneCell' = true := by
  intro u hu
  simp [encA] at hu
  obtain rfl | rfl | rfl | rfl := hu <;> rfl
/-- The slice value v holds the arcs l. -/
def Arcs (w : World) (v : Value) (l : List Ar) : Prop := Row 4 encA w v l
theorem Arcs.later {w w' : World} {v : Value} {l : List Ar} (h : Arcs w v l) {B : Nat} (hb : Below B w w') (hB : w.heap.size ≤ B) : Arcs w' v l := Row.later h hb hB
theorem Arcs.plain {w : World} {v : Value} {l : List Ar} (h : Arcs w v l) (hz : 0 < l.length) :
    ∃ b off cap, v = .slice (some ⟨b, off, none⟩) l.length cap ∧ b < w.heap.size ∧ ∀ j, j < l.length → w.cell? ⟨b, off + j * 4, none⟩ = some (.int .i64 (el l j).1) ∧ w.cell? ⟨b, off + j * 4 + 1, none⟩ = some (.int .i64 (el l j).2.1) ∧
      w.cell? ⟨b, off + j * 4 + 2, none⟩ = some (.int .i64 (el l j).2.2.1) ∧ w.cell? ⟨b, off + j * 4 + 3, none⟩ = some (.int .i64 (el l j).2.2.2) := by
  obtain ⟨b, off, cap, hv, hb, hc⟩ := Row.plain h (fun x => by rw [encA_len]; omega) hz
  exact ⟨b, off, cap, hv, hb, fun j hj => ⟨hc j hj 0 _ rfl, hc j hj 1 _ rfl, hc j hj 2 _ rfl, hc j hj 3 _ rfl⟩⟩
theorem Arcs.sl {w : World} {v : Value} {l : List Ar} (h : Arcs w v l) : ∃ a cap, v = .slice a l.length cap := Row.sl h
theorem Arcs.empty {w : World} {v : Value} (h : Arcs w v []) : ∃ a cap, v = .slice a 0 cap := Row.empty h
/-- Place by place. -/
theorem Arcs.get {w : World} {v : Value} {l : List Ar} (h : Arcs w v l) : ∃ a cap, v = .slice a l.length cap ∧ ∀ j, j < l.length → ∃ b off, a = some ⟨b, off, none⟩ ∧ b < w.heap.size ∧ w.cell? ⟨b, off + j * 4, none⟩ = some (.int .i64 (el l j).1) ∧ w.cell? ⟨b, off + j * 4 + 1, none⟩ = some (.int .i64 (el l j).2.1) ∧
      w.cell? ⟨b, off + j * 4 + 2, none⟩ = some (.int .i64 (el l j).2.2.1) ∧ w.cell? ⟨b, off + j * 4 + 3, none⟩ = some (.int .i64 (el l j).2.2.2) := by
  by_cases hz : 0 < l.length
  · obtain ⟨b, off, cap, hv, hb, hc⟩ := h.plain hz
    exact ⟨_, cap, hv, fun j hj => ⟨b, off, rfl, hb, hc j hj⟩⟩
  · obtain ⟨a, cap, hv⟩ := h.sl
    exact ⟨a, cap, hv, fun j hj => by omega⟩
/-- The slice value v holds the states l. -/
def Sts (w : World) (v : Value) (l : List St) : Prop :=
  ∃ vs : List (Int × Value), Row 2 encS w v vs ∧ vs.length = l.length ∧ ∀ j, j < l.length → (el vs j).1 = (el l j).1 ∧ Arcs w (el vs j).2 (el l j).2
theorem Sts.later {w w' : World} {v : Value} {l : List St} (h : Sts w v l) {B : Nat} (hb : Below B w w') (hB : w.heap.size ≤ B) : Sts w' v l := by
  obtain ⟨vs, h1, h2, h3⟩ := h
  exact ⟨vs, Row.later h1 hb hB, h2, fun j hj => ⟨(h3 j hj).1, (h3 j hj).2.later hb hB⟩⟩
theorem Sts.plain {w : World} {v : Value} {l : List St} (h : Sts w v l) (hz : 0 < l.length) :
    ∃ b off cap, v = .slice (some ⟨b, off, none⟩) l.length cap ∧ b < w.heap.size ∧ ∀ j, j < l.length → ∃ va, w.cell? ⟨b, off + j * 2, none⟩ = some (.int .i64 (el l j).1) ∧ w.cell? ⟨b, off + j * 2 + 1, none⟩ = some va ∧ Arcs w va (el l j).2 := by
  obtain ⟨vs, h1, h2, h3⟩ := h
  obtain ⟨b, off, cap, hv, hb, hc⟩ := Row.plain h1 (fun x => by rw [encS_len]; omega) (by omega)
  refine ⟨b, off, cap, by rw [← h2]; exact hv, hb, fun j hj => ⟨(el vs j).2, ?_, hc j (by omega) 1 _ rfl, (h3 j hj).2⟩⟩
  rw [← (h3 j hj).1]
  exact hc j (by omega) 0 _ rfl
theorem Sts.sl {w : World} {v : Value} {l : List St} (h : Sts w v l) : ∃ a cap, v = .slice a l.length cap := by
  obtain ⟨vs, h1, h2, h3⟩ := h
  rw [← h2]; exact Row.sl h1
theorem Sts.empty {w : World} {v : Value} (h : Sts w v []) : ∃ a cap, v = .slice a 0 cap := Sts.sl h
theorem Sts.get {w : World} {v : Value} {l : List St} (h : Sts w v l) : ∃ a cap, v = .slice a l.length cap ∧ ∀ j, j < l.length → ∃ b off va, a = some ⟨b, off, none⟩ ∧ b < w.heap.size ∧ w.cell? ⟨b, off + j * 2, none⟩ = some (.int .i64 (el l j).1) ∧ w.cell? ⟨b, off + j * 2 + 1, none⟩ = some va ∧ Arcs w va (el l j).2 := by
  by_cases hz : 0 < l.length
  · obtain ⟨b, off, cap, hv, hb, hc⟩ := h.plain hz
    exact ⟨_, cap, hv, fun j hj => by obtain ⟨va, h1, h2, h3⟩ := hc j hj; exact ⟨b, off, va, rfl, hb, h1, h2, h3⟩⟩
  · obtain ⟨a, cap, hv⟩ := h.sl
    exact ⟨a, cap, hv, fun j hj => by omega⟩
/-- The value v is the machine m. -/
def Mach (w : World) (v : Value) (m : Mc) : Prop := ∃ vs, v = .agg #[.int .i64 m.1, vs] ∧ Sts w vs m.2
theorem Mach.later {w w' : World} {v : Value} {m : Mc} (h : Mach w v m) {B : Nat} (hb : Below B w w') (hB : w.heap.size ≤ B) : Mach w' v m := by
  obtain ⟨vs, h1, h2⟩ := h
  exact ⟨vs, h1, h2.later hb hB⟩
theorem infoArc : (Try.prog.info? 75).map (fun i => (i.zero, i.size, i.bytes)) = some (some (.agg #[.int .i64 0, .int .i64 0, .int .i64 0, .int .i64 0]), 4, 32) := by kernel_rfl
theorem infoState : (Try.prog.info? 58).map (fun i => (i.zero, i.size, i.bytes)) = some (some (.agg #[.int .i64 0, .slice none 0 0]), 2, 32) := by kernel_rfl
end Go.Proofs.Ytkeeiihaijhdoaa.Wt
