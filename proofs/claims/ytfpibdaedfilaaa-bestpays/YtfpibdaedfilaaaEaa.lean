/- Plain facts on lists of arcs, states, machines (no program in sight). -/
import Derived.WalkKit
import Derived.Test.YtfpibdaedfilaaaRows
import Derived.ProofKit
import Derived.OpenShut
import Derived.Below
import Derived.SizedLaws
import Derived.Handy
import Derived.Laws.AppendOwnNone
import Derived.Deep.AppendLies
import Derived.BigQuiet
import Derived.Deep.QuietTactic
import Derived.WalkSmall
import Derived.OrdersHeld
import Derived.Deep.RegionHeld3
import Derived.BigRegion
namespace Go.Proofs.Ytfpibdaedfilaaa.Pl
abbrev Ar := Int × Int × Int × Int
abbrev St := Int × List Ar
abbrev Mc := Int × List St
def el {α : Type} [Inhabited α] (l : List α) (j : Nat) : α := l[j]?.getD default
section
variable {α : Type} [Inhabited α]
theorem el_get {l : List α} {j : Nat} (h : j < l.length) : el l j = l[j] := by simp [el, h]
theorem el_zero (a : α) (l : List α) : el (a :: l) 0 = a := rfl
theorem el_succ (a : α) (l : List α) (j : Nat) : el (a :: l) (j + 1) = el l j := by simp [el]
theorem el_mem {l : List α} {j : Nat} (h : j < l.length) : el l j ∈ l := by rw [el_get h]; exact List.getElem_mem h
theorem mem_el {l : List α} {a : α} (h : a ∈ l) : ∃ j, j < l.length ∧ el l j = a := by
 obtain ⟨j, hj, e⟩ := List.mem_iff_getElem.1 h
 exact ⟨j, hj, by rw [el_get hj]; exact e⟩
theorem take_el {l : List α} {k : Nat} (h : k < l.length) : l.take (k + 1) = l.take k ++ [el l k] := by
 rw [List.take_succ_eq_append_getElem h, el_get h]
theorem el_left {l r : List α} {j : Nat} (h : j < l.length) : el (l ++ r) j = el l j := by simp [el, List.getElem?_append_left h]
theorem el_last (l : List α) (a : α) : el (l ++ [a]) l.length = a := by simp [el]
theorem el_take {l : List α} {j k : Nat} (h : j < k) : el (l.take k) j = el l j := by simp [el, h]
theorem el_range_map (f : Nat → α) {n j : Nat} (h : j < n) : el ((List.range n).map f) j = f j := by simp [el, h]
theorem all_take_succ {l : List α} {k : Nat} (h : k < l.length) (p : α → Bool) : (l.take (k + 1)).all p = ((l.take k).all p && p (el l k)) := by
 rw [take_el h]; simp
theorem all_false_el {l : List α} {k : Nat} (h : k < l.length) {p : α → Bool} (hp : p (el l k) = false) : l.all p = false := by
 rw [List.all_eq_false]
 exact ⟨el l k, el_mem h, by simp [hp]⟩
end
def arcN : List St → Nat
 | [] => 0
 | s :: l => s.2.length + arcN l
theorem arcN_append (a b : List St) : arcN (a ++ b) = arcN a + arcN b := by
 induction a with
 | nil => simp [arcN]
 | cons s l ih => simp [arcN, ih]; omega
theorem arcN_take {l : List St} {k : Nat} (h : k < l.length) : arcN (l.take (k + 1)) = arcN (l.take k) + (el l k).2.length := by
 rw [take_el h, arcN_append]; simp [arcN]
theorem arcN_le {l : List St} {R : Nat} (h : ∀ j, j < l.length → (el l j).2.length ≤ R) : arcN l ≤ l.length * R := by
  induction l with
  | nil => simp [arcN]
  | cons s l ih =>
    have h0 := h 0 (by simp)
    rw [el_zero] at h0
    have := ih (fun j hj => by have := h (j + 1) (by simpa using hj); rwa [el_succ] at this)
    simp only [arcN, List.length_cons, Nat.add_mul, Nat.one_mul]
    omega
theorem arcN_take_le {l : List St} {R : Nat} (h : ∀ j, j < l.length → (el l j).2.length ≤ R) (k : Nat) : arcN (l.take k) ≤ l.length * R := by
 refine Nat.le_trans (arcN_le (l := l.take k) (R := R) fun j hj => ?_) (Nat.mul_le_mul_right _ (by simp; omega))
 rw [List.length_take] at hj
 rw [el_take (by omega)]
 exact h j (by omega)
def inB (n a b : Int) : Bool := decide (a ≤ n) && decide (n ≤ b)
def finB (n : Int) : Bool := decide (n = 1000000001) || inB n 0 1000000000
def arcB (n : Nat) (a : Ar) : Bool := inB a.1 0 1000 && inB a.2.1 0 1000 && inB a.2.2.1 0 1000000000 && inB a.2.2.2 0 ((n : Int) - 1)
def stB (n : Nat) (s : St) : Bool := finB s.1 && s.2.all (arcB n)
def sizeB (m : Mc) : Bool := decide (m.2.length ≤ 60) && decide (arcN m.2 ≤ 400)
def rangeB (m : Mc) : Bool := inB m.1 (-1) ((m.2.length : Int) - 1) && m.2.all (stB m.2.length)
def faultM (m : Mc) : Int := if sizeB m = true then (if rangeB m = true then 0 else 2) else 1
theorem faultM_size {m : Mc} (h : sizeB m = false) : faultM m = 1 := by simp [faultM, h]
theorem faultM_ok {m : Mc} (h : sizeB m = true) (g : rangeB m = true) : faultM m = 0 := by simp [faultM, h, g]
theorem faultM_zero {m : Mc} (h : faultM m = 0) : sizeB m = true ∧ rangeB m = true := by
 unfold faultM at h
 split at h
 ·rename_i h1
  split at h
  ·rename_i h2; exact ⟨h1, h2⟩
  ·simp at h
 ·simp at h
theorem bool_cases' (b : Bool) : b = true ∨ b = false := by cases b <;> simp
theorem okM_arcs {l : List St} (h : l.length * 32 ≤ 140737488351232 ∧ ∀ j, j < l.length → (el l j).2.length * 32 ≤ 140737488351232) (h60 : l.length ≤ 60) (k : Nat) : arcN (l.take k) ≤ 60 * 4398046511104 := by
 have h1 := arcN_take_le (l := l) (R := 4398046511104) (fun j hj => by have := h.2 j hj; omega) k
 exact Nat.le_trans h1 (Nat.mul_le_mul_right _ h60)
theorem ret_boolK {a b : Bool} (h : a = b) : Ending.returned (.bool a) = .returned (.bool b) := by rw [h]
theorem ret_intK {k : IntKind} {a b : Int} (h : a = b) : Ending.returned (.int k a) = .returned (.int k b) := by rw [h]
theorem right_st {z : Int} {l : List St} (h : faultM (z, l) = 0) {j : Nat} (hj : j < l.length) : finB (el l j).1 = true ∧ (el l j).2.all (arcB l.length) = true := by
 have h1 := (faultM_zero h).2
 simp only [rangeB, Bool.and_eq_true, List.all_eq_true] at h1
 have h2 := h1.2 _ (el_mem hj)
 simpa [stB] using h2
theorem right_size {z : Int} {l : List St} (h : faultM (z, l) = 0) : l.length ≤ 60 ∧ arcN l ≤ 400 := by
 have h1 := (faultM_zero h).1
 simpa [sizeB] using h1
def okM (m : Mc) : Prop := m.2.length * 32 ≤ 140737488351232 ∧ ∀ j, j < m.2.length → (el m.2 j).2.length * 32 ≤ 140737488351232
end Go.Proofs.Ytfpibdaedfilaaa.Pl
namespace Go.Proofs.Ytfpibdaedfilaaa.Wt
open Go.ChangeShapes Go.WideShapes Go.ChangeAt Go.RowKit
open Go.Proofs.Ytfpibdaedfilaaa.Pl
set_option linter.unusedVariables false
theorem flat_length {α : Type} {k : Nat} {enc : α → List Value} (hk : ∀ x, (enc x).length = k) (xs : List α) : (xs.flatMap enc).length = xs.length * k := by
 induction xs with
 | nil => simp
 | cons p l ih => simp [ih, hk, Nat.add_mul]; omega
section
variable {α : Type} [Inhabited α] {k : Nat} {enc : α → List Value} {w w' : World} {v : Value} {xs : List α}
def Row (k : Nat) (enc : α → List Value) (w : World) (v : Value) (xs : List α) : Prop :=
 (v = .slice none 0 0 ∧ xs = []) ∨
 ∃ (x : Addr) (cap : Nat), v = .slice (some x) xs.length cap ∧ ∀ j, j < xs.length → ∀ (i : Nat) u, (enc (el xs j))[i]? = some u → w.cell? (x.add (j * k + i)) = some u
theorem Row.later (h : Row k enc w v xs) {B : Nat} (hb : Below B w w') (hB : w.heap.size ≤ B) : Row k enc w' v xs := by
 rcases h with h | ⟨x, cap, hv, hc⟩
 ·exact .inl h
 ·exact .inr ⟨x, cap, hv, fun j hj i u hu => (hb.cell (Nat.lt_of_lt_of_le (World.block_lt_of_cell? _ _ (hc j hj i u hu)) hB)).trans (hc j hj i u hu)⟩
theorem Row.plain (h : Row k enc w v xs) (he : ∀ x, 0 < (enc x).length) (hz : 0 < xs.length) :
  ∃ b off cap, v = .slice (some ⟨b, off, none⟩) xs.length cap ∧ b < w.heap.size ∧ ∀ j, j < xs.length → ∀ (i : Nat) u, (enc (el xs j))[i]? = some u → w.cell? ⟨b, off + j * k + i, none⟩ = some u := by
 rcases h with ⟨_, rfl⟩ | ⟨x, cap, hv, hc⟩
 ·simp at hz
 ·obtain ⟨b, off, spot⟩ := x
  have h0 := hc 0 hz 0 _ (List.getElem?_eq_getElem (he (el xs 0)))
  have hs : spot = none := by simpa [Addr.add] using World.cell?_spot h0
  subst hs
  refine ⟨b, off, cap, hv, by have h1 := World.block_lt_of_cell? _ _ h0; rw [Addr.add_lit] at h1; exact h1, fun j hj i u hu => ?_⟩
  have := hc j hj i u hu
  rw [Addr.add_lit, ← Nat.add_assoc] at this
  exact this
theorem Row.sl (h : Row k enc w v xs) : ∃ a cap, v = .slice a xs.length cap := by
 rcases h with ⟨h, rfl⟩ | ⟨x, cap, hv, _⟩
 ·exact ⟨_, _, h⟩
 ·exact ⟨_, _, hv⟩
theorem flat_at (hk : ∀ x, (enc x).length = k) (xs : List α) : ∀ j, j < xs.length → ∀ i, i < k → (xs.flatMap enc)[j * k + i]? = (enc (el xs j))[i]? := by
  induction xs with
  | nil => intro j h; simp at h
  | cons p l ih =>
    intro j hj i hi
    cases j with
    | zero =>
      rw [el_zero, List.flatMap_cons, Nat.zero_mul, Nat.zero_add, List.getElem?_append_left (by rw [hk]; exact hi)]
    | succ j =>
      have := ih j (by simpa using hj) i hi
      rw [el_succ, List.flatMap_cons, List.getElem?_append_right (by rw [hk, Nat.add_mul]; omega), ← this, hk]
      congr 1
      rw [Nat.add_mul]; omega
theorem Row.ofOwn (hk : ∀ x, (enc x).length = k) {base : Nat} {e : TypeId} {n : Nat} (h : w.ownsRow base e k v n (xs.flatMap enc)) (hn : xs.length = n) : Row k enc w v xs := by
 have hh := h
 rcases h.2 with ⟨hv, hn0⟩ | ⟨g, cap, cur, hv, _⟩
 ·exact .inl ⟨hv, List.eq_nil_of_length_eq_zero (by omega)⟩
 ·refine .inr ⟨⟨g, 0, none⟩, cap, by rw [hn]; exact hv, fun j hj i u hu => ?_⟩
  have hg : v.ownBlock = some g := by rw [hv]; rfl
  have hi : i < k := by
   rcases Nat.lt_or_ge i k with h | h
   ·exact h
   ·rw [List.getElem?_eq_none (by rw [hk]; exact h)] at hu; simp at hu
  exact hh.cells hg _ _ ((flat_at hk xs j hj i hi).trans hu)
end
theorem own_geK {w : World} {base : Nat} {e : TypeId} {s : Nat} {v : Value} {n : Nat} {xs : List Value} (h : w.ownsRow base e s v n xs) : ∀ k, v.ownBlock = some k → base ≤ k := fun k hk => (h.lt k hk).1
theorem own_apart {w : World} {b1 b2 : Nat} {e1 e2 : TypeId} {s1 s2 : Nat} {v1 v2 : Value} {n1 n2 : Nat} {xs1 xs2 : List Value} (h1 : w.ownsRow b1 e1 s1 v1 n1 xs1) (h2 : w.ownsRow b2 e2 s2 v2 n2 xs2) (hne : e1 ≠ e2) : v1.ownBlock = none ∨ v1.ownBlock ≠ v2.ownBlock := by
 rcases h1.2 with ⟨hv, _⟩ | ⟨g, cap, cur, hv, _, hg, _⟩
 ·left; rw [hv]; rfl
 ·right
  rcases h2.2 with ⟨hv2, _⟩ | ⟨g2, cap2, cur2, hv2, _, hg2, _⟩
  ·rw [hv, hv2]; simp [Value.ownBlock]
  ·rw [hv, hv2]
   intro e
   simp [Value.ownBlock] at e
   rw [e, hg2] at hg
   injection hg with hg
   injection hg with _ hg _
   exact hne hg.symm
section
variable {α : Type} [Inhabited α] {k : Nat} {enc : α → List Value}
theorem row_news (hk : ∀ x, (enc x).length = k) (hk0 : 0 < k) {w : World} {ad : Addr} {ns : List α} (hc : ∀ j, j < ns.length → ∀ (i : Nat) u, (enc (el ns j))[i]? = some u → w.cell? (ad.add (j * k + i)) = some u) :
  ∀ j u, (ns.flatMap enc)[j]? = some u → w.cell? (ad.add j) = some u := by
 intro j u hj
 have hl : j < ns.length * k := by
  rcases Nat.lt_or_ge j (ns.length * k) with h | h
  ·exact h
  ·rw [List.getElem?_eq_none (by rw [flat_length hk]; exact h)] at hj; simp at hj
 have hq : j / k < ns.length := (Nat.div_lt_iff_lt_mul hk0).2 hl
 have hm : j % k < k := Nat.mod_lt _ hk0
 have he : j / k * k + j % k = j := by rw [Nat.mul_comm]; exact Nat.div_add_mod j k
 have h1 := hc (j / k) hq (j % k) u
 have h2 := flat_at hk ns (j / k) hq (j % k) hm
 rw [he] at h1 h2
 exact h1 (h2 ▸ hj)
theorem run_append_rows {P : Program} {w : World} (hk : ∀ x, (enc x).length = k) (hk0 : 0 < k) (h1c : ∀ x, ∀ u ∈ enc x, u.oneCell' = true) (t ty : TypeId)
  (base : Nat) (e : TypeId) (i : TypeInfo) (z : Value) (bytes : Nat) (ht : P.underlying t = some (.slice e)) (hi : P.info? e = some i) (hz : i.zero = some z)
  (hsize : i.size = k) (hby : i.bytes = bytes) (hzs : z.cells.size = k)
  (v : Value) (n : Nat) (ms : List Value) (hown : w.ownsRow base e k v n ms) (vx : Value) (ns : List α) (hX : Row k enc w vx ns)
  (h63 : n + ns.length ≤ maxLen) (hbytes : (n + ns.length) * bytes ≤ 140737488355328) (hbase : base ≤ w.heap.size) :
  ∃ v' w', (Builtin.append_ #[t, t] ty #[v, vx]).run P w = .ok v' w' ∧ w'.ownsRow base e k v' (n + ns.length) (ms ++ ns.flatMap enc) ∧ w.grownBy w' v.ownBlock := by
 rcases hX with ⟨hv, hzs0⟩ | ⟨ad, cap, hv, hc⟩
 ·subst hv; subst hzs0
  exact ⟨v, w, run_append_owned_none (P := P) (w := w) base t ty e i k ht hi v n ms hown, by simpa using hown, World.grownBy.refl _ _⟩
 ·subst hv
  obtain ⟨v', w', h1, h2, h3, _⟩ := run_append_own (P := P) w base t ty e i z k bytes ht hi hz hsize hby hzs hk0 v n ms hown ad ns.length cap (ns.flatMap enc) (flat_length hk ns) (row_news hk hk0 hc) (by
   intro u hu
   simp only [List.mem_flatMap] at hu
   obtain ⟨y, _, hy⟩ := hu
   exact h1c y u hy) h63 hbytes hbase
  exact ⟨v', w', h1, h2, h3⟩
theorem wp_append_rows {P : Program} {w : World} {o : Oper} {a : Act} {K : Act → World → Prop} {Q : Exit → Act → World → Prop} (hk : ∀ x, (enc x).length = k) (hk0 : 0 < k) (h1c : ∀ x, ∀ u ∈ enc x, u.oneCell' = true) (s x : Operand) (t : TypeId)
  (ho : o.op = .call { callee := .builtin .append, args := #[s, x], argTypes := #[t, t] })
  (base : Nat) (e : TypeId) (i : TypeInfo) (z : Value) (bytes : Nat) (ht : P.underlying t = some (.slice e)) (hi : P.info? e = some i) (hz : i.zero = some z)
  (hsize : i.size = k) (hby : i.bytes = bytes) (hzs : z.cells.size = k)
  (v : Value) (n : Nat) (ms : List Value) (hs : a.eval s = v) (hown : w.ownsRow base e k v n ms)
  (vx : Value) (ns : List α) (hx : a.eval x = vx) (hX : Row k enc w vx ns)
  (h63 : n + ns.length ≤ maxLen) (hbytes : (n + ns.length) * bytes ≤ 140737488355328) (hbase : base ≤ w.heap.size)
  (h : ∀ v' w', w'.ownsRow base e k v' (n + ns.length) (ms ++ ns.flatMap enc) → w.grownBy w' v.ownBlock → K (a.put o.dst v') w') : o.wp P a w K Q := by
 obtain ⟨v', w', hr, h2, h3⟩ := run_append_rows hk hk0 h1c t o.type base e i z bytes ht hi hz hsize hby hzs v n ms hown vx ns hX h63 hbytes hbase
 unfold Oper.wp execOp
 simp only [ho, resolve, invoke, builtin, Sem.run_bind, Sem.run_pure, Result.andThen_ok, List.map_toArray, List.map_cons, List.map_nil, hs, hx, hr]
 exact h v' w' h2 h3
theorem wpList_append_rows {P : Program} {w : World} {ops : Array Oper} {rest : List Oper} {o : Oper} {a : Act} {Q : Exit → Act → World → Prop} (hk : ∀ x, (enc x).length = k) (hk0 : 0 < k) (h1c : ∀ x, ∀ u ∈ enc x, u.oneCell' = true) (hgd : o.guard = none) (s x : Operand) (t : TypeId)
  (ho : o.op = .call { callee := .builtin .append, args := #[s, x], argTypes := #[t, t] })
  (base : Nat) (e : TypeId) (i : TypeInfo) (z : Value) (bytes : Nat) (ht : P.underlying t = some (.slice e)) (hi : P.info? e = some i) (hz : i.zero = some z)
  (hsize : i.size = k) (hby : i.bytes = bytes) (hzs : z.cells.size = k)
  (v : Value) (n : Nat) (ms : List Value) (hs : a.eval s = v) (hown : w.ownsRow base e k v n ms)
  (vx : Value) (ns : List α) (hx : a.eval x = vx) (hX : Row k enc w vx ns)
  (h63 : n + ns.length ≤ maxLen) (hbytes : (n + ns.length) * bytes ≤ 140737488355328) (hbase : base ≤ w.heap.size)
  (h : ∀ v' w', w'.ownsRow base e k v' (n + ns.length) (ms ++ ns.flatMap enc) → w.grownBy w' v.ownBlock → wpList P ops Q rest (a.put o.dst v') w') : wpList P ops Q (o :: rest) a w :=
 wpList_plain hgd fun _ hK => wp_append_rows hk hk0 h1c s x t ho base e i z bytes ht hi hz hsize hby hzs v n ms hs hown vx ns hx hX h63 hbytes hbase fun v' w' h2 h3 => hK _ _ (h v' w' h2 h3)
end
def encA (a : Ar) : List Value := [.int .i64 a.1, .int .i64 a.2.1, .int .i64 a.2.2.1, .int .i64 a.2.2.2]
def encS (s : Int × Value) : List Value := [.int .i64 s.1, s.2]
theorem encA_len (a : Ar) : (encA a).length = 4 := rfl
theorem encS_len (s : Int × Value) : (encS s).length = 2 := rfl
theorem encA_one (a : Ar) : ∀ u ∈ encA a, u.oneCell' = true := by
 intro u hu
 simp [encA] at hu
 obtain rfl | rfl | rfl | rfl := hu <;> rfl
def Arcs (w : World) (v : Value) (l : List Ar) : Prop := Row 4 encA w v l
theorem Arcs.later {w w' : World} {v : Value} {l : List Ar} (h : Arcs w v l) {B : Nat} (hb : Below B w w') (hB : w.heap.size ≤ B) : Arcs w' v l := Row.later h hb hB
theorem Arcs.plain {w : World} {v : Value} {l : List Ar} (h : Arcs w v l) (hz : 0 < l.length) :
    ∃ b off cap, v = .slice (some ⟨b, off, none⟩) l.length cap ∧ b < w.heap.size ∧ ∀ j, j < l.length → w.cell? ⟨b, off + j * 4, none⟩ = some (.int .i64 (el l j).1) ∧ w.cell? ⟨b, off + j * 4 + 1, none⟩ = some (.int .i64 (el l j).2.1) ∧
      w.cell? ⟨b, off + j * 4 + 2, none⟩ = some (.int .i64 (el l j).2.2.1) ∧ w.cell? ⟨b, off + j * 4 + 3, none⟩ = some (.int .i64 (el l j).2.2.2) := by
  obtain ⟨b, off, cap, hv, hb, hc⟩ := Row.plain h (fun x => by rw [encA_len]; omega) hz
  exact ⟨b, off, cap, hv, hb, fun j hj => ⟨hc j hj 0 _ rfl, hc j hj 1 _ rfl, hc j hj 2 _ rfl, hc j hj 3 _ rfl⟩⟩
theorem Arcs.sl {w : World} {v : Value} {l : List Ar} (h : Arcs w v l) : ∃ a cap, v = .slice a l.length cap := Row.sl h
theorem Arcs.get {w : World} {v : Value} {l : List Ar} (h : Arcs w v l) : ∃ a cap, v = .slice a l.length cap ∧ ∀ j, j < l.length → ∃ b off, a = some ⟨b, off, none⟩ ∧ b < w.heap.size ∧ w.cell? ⟨b, off + j * 4, none⟩ = some (.int .i64 (el l j).1) ∧ w.cell? ⟨b, off + j * 4 + 1, none⟩ = some (.int .i64 (el l j).2.1) ∧
   w.cell? ⟨b, off + j * 4 + 2, none⟩ = some (.int .i64 (el l j).2.2.1) ∧ w.cell? ⟨b, off + j * 4 + 3, none⟩ = some (.int .i64 (el l j).2.2.2) := by
 by_cases hz : 0 < l.length
 ·obtain ⟨b, off, cap, hv, hb, hc⟩ := h.plain hz
  exact ⟨_, cap, hv, fun j hj => ⟨b, off, rfl, hb, hc j hj⟩⟩
 ·obtain ⟨a, cap, hv⟩ := h.sl
  exact ⟨a, cap, hv, fun j hj => by omega⟩
def Sts (w : World) (v : Value) (l : List St) : Prop :=
 ∃ vs : List (Int × Value), Row 2 encS w v vs ∧ vs.length = l.length ∧ ∀ j, j < l.length → (el vs j).1 = (el l j).1 ∧ Arcs w (el vs j).2 (el l j).2
theorem Sts.later {w w' : World} {v : Value} {l : List St} (h : Sts w v l) {B : Nat} (hb : Below B w w') (hB : w.heap.size ≤ B) : Sts w' v l := by
 obtain ⟨vs, h1, h2, h3⟩ := h
 exact ⟨vs, Row.later h1 hb hB, h2, fun j hj => ⟨(h3 j hj).1, (h3 j hj).2.later hb hB⟩⟩
theorem Sts.plain {w : World} {v : Value} {l : List St} (h : Sts w v l) (hz : 0 < l.length) :
  ∃ b off cap, v = .slice (some ⟨b, off, none⟩) l.length cap ∧ b < w.heap.size ∧ ∀ j, j < l.length → ∃ va, w.cell? ⟨b, off + j * 2, none⟩ = some (.int .i64 (el l j).1) ∧ w.cell? ⟨b, off + j * 2 + 1, none⟩ = some va ∧ Arcs w va (el l j).2 := by
 obtain ⟨vs, h1, h2, h3⟩ := h
 obtain ⟨b, off, cap, hv, hb, hc⟩ := Row.plain h1 (fun x => by rw [encS_len]; omega) (by omega)
 refine ⟨b, off, cap, by rw [← h2]; exact hv, hb, fun j hj => ⟨(el vs j).2, ?_, hc j (by omega) 1 _ rfl, (h3 j hj).2⟩⟩
 rw [← (h3 j hj).1]
 exact hc j (by omega) 0 _ rfl
theorem Sts.sl {w : World} {v : Value} {l : List St} (h : Sts w v l) : ∃ a cap, v = .slice a l.length cap := by
 obtain ⟨vs, h1, h2, h3⟩ := h
 rw [← h2]; exact Row.sl h1
theorem Sts.get {w : World} {v : Value} {l : List St} (h : Sts w v l) : ∃ a cap, v = .slice a l.length cap ∧ ∀ j, j < l.length → ∃ b off va, a = some ⟨b, off, none⟩ ∧ b < w.heap.size ∧ w.cell? ⟨b, off + j * 2, none⟩ = some (.int .i64 (el l j).1) ∧ w.cell? ⟨b, off + j * 2 + 1, none⟩ = some va ∧ Arcs w va (el l j).2 := by
 by_cases hz : 0 < l.length
 ·obtain ⟨b, off, cap, hv, hb, hc⟩ := h.plain hz
  exact ⟨_, cap, hv, fun j hj => by obtain ⟨va, h1, h2, h3⟩ := hc j hj; exact ⟨b, off, va, rfl, hb, h1, h2, h3⟩⟩
 ·obtain ⟨a, cap, hv⟩ := h.sl
  exact ⟨a, cap, hv, fun j hj => by omega⟩
def Mach (w : World) (v : Value) (m : Mc) : Prop := ∃ vs, v = .agg #[.int .i64 m.1, vs] ∧ Sts w vs m.2
theorem Mach.later {w w' : World} {v : Value} {m : Mc} (h : Mach w v m) {B : Nat} (hb : Below B w w') (hB : w.heap.size ≤ B) : Mach w' v m := by
 obtain ⟨vs, h1, h2⟩ := h
 exact ⟨vs, h1, h2.later hb hB⟩
theorem infoArc : (Try.prog.info? 58).map (fun i => (i.zero, i.size, i.bytes)) = some (some (.agg #[.int .i64 0, .int .i64 0, .int .i64 0, .int .i64 0]), 4, 32) := by kernel_rfl
theorem infoState : (Try.prog.info? 56).map (fun i => (i.zero, i.size, i.bytes)) = some (some (.agg #[.int .i64 0, .slice none 0 0]), 2, 32) := by kernel_rfl
end Go.Proofs.Ytfpibdaedfilaaa.Wt
namespace Go.Proofs.Ytfpibdaedfilaaa.Wt
open Go
section
variable {P : Program} {ops : Array Oper} {Q : Exit → Act → World → Prop} {md : Region.Mode} {S : World → Prop} {L : Nat}
def AnyL (P : Program) (md : Region.Mode) (ops : Array Oper) (Q : Exit → Act → World → Prop) (S : World → Prop) (L : Nat) : Nat → Array Bool → Act → World → Prop
  | 0, listed, a, w => Region.ready md ops listed = [] ∧ Q .normal a w
  | n + 1, listed, a, w => (Region.ready md ops listed = [] → Q .normal a w) ∧
      ∀ i ∈ Region.ready md ops listed, wpOp P ops Q i (fun b x => (i = L ∨ S x) ∧ AnyL P md ops Q S L n (listed.setIfInBounds i true) b x) a w
theorem AnyL.any : ∀ (n : Nat) (listed : Array Bool) (a : Act) (w : World), AnyL P md ops Q S L n listed a w → wpAny P md ops Q n listed a w
 | 0, _, _, _, h => h
 | n + 1, _, _, _, h => ⟨h.1, fun i hi => wpOp_mono (fun b x k => AnyL.any n _ b x k.2) (h.2 i hi)⟩
def waits (md : Region.Mode) (ops : Array Oper) (L i : Nat) : Bool := match ops[L]? with
 | some o => o.after.any fun e => Region.binds md e && e.on == i
 | none => true
theorem waits_spec {i : Nat} (h : waits md ops L i = true) {o : Oper} (ho : ops[L]? = some o) : ∃ e ∈ o.after, Region.binds md e = true ∧ e.on = i := by
 unfold waits at h
 rw [ho] at h
 obtain ⟨j, hj, h1⟩ := Array.any_eq_true.1 h
 simp only [Bool.and_eq_true, beq_iff_eq] at h1
 exact ⟨_, Array.getElem_mem hj, h1.1, h1.2⟩
theorem AnyL.first {i : Nat} {o : Oper} {v : Value} (hi : ops[i]? = some o) (hw : waits md ops L i = true) (hsel : ∀ (j : Nat) (p : Oper) cs d, ops[j]? = some p → p.op ≠ .select cs d) (hQ : ∀ c a w, Q (.panic c) (a.put o.dst v) w → Q (.panic c) a w) :
    ∀ (n : Nat) (listed : Array Bool) (a : Act) (w : World),
      (∀ j p, ops[j]? = some p → j ≠ i → listed.getD j true = false → (∀ e ∈ p.after, Region.binds md e = true → e.on ≠ i) → o.apart ops p = true) →
      i ∈ Region.ready md ops listed → YieldsIf P ops S o v a → S w → AnyL P md ops Q S L n (listed.setIfInBounds i true) (a.put o.dst v) w → AnyL P md ops Q S L (n + 1) listed a w := by
  intro n
  induction n with
  | zero =>
    intro listed a w _ hr hy hS H
    refine ⟨fun h => (by rw [h] at hr; cases hr), fun j hj => ?_⟩
    by_cases hji : j = i
    · subst hji; exact hy.wpOp hi hS ⟨.inr hS, H⟩
    · have h1 := ready_mono hj hji
      rw [H.1] at h1
      cases h1
  | succ n ih =>
    intro listed a w hfree hr hy hS H
    refine ⟨fun h => (by rw [h] at hr; cases hr), fun j hj => ?_⟩
    by_cases hji : j = i
    · subst hji; exact hy.wpOp hi hS ⟨.inr hS, H⟩
    · have h1 := H.2 j (ready_mono hj hji)
      obtain ⟨hjun, p, hp, hall⟩ := mem_ready.1 hj
      have hnot : ∀ e ∈ p.after, Region.binds md e = true → e.on ≠ i := fun e he hb heq => by
        have k1 := hall e he hb
        have k0 := (mem_ready.1 hr).1
        rw [heq] at k1
        rcases Nat.lt_or_ge i listed.size with g | g
        · simp [g] at k0 k1; rw [k0] at k1; cases k1
        · simp [Array.getElem?_eq_none g] at k1
      have hjL : j ≠ L := fun e => by
        subst e
        obtain ⟨e, he, hb, hon⟩ := waits_spec hw hp
        exact hnot e he hb hon
      have h2 := wpOp_putIf hp (hfree j p hp hji hjun hnot) (fun cs d => hsel i o cs d hi) (fun cs d => hsel j p cs d hp) hQ hy h1
      have hri : i ∈ Region.ready md ops (listed.setIfInBounds j true) := ready_mono hr (Ne.symm hji)
      have hfree2 : ∀ k q, ops[k]? = some q → k ≠ i → (listed.setIfInBounds j true).getD k true = false → (∀ e ∈ q.after, Region.binds md e = true → e.on ≠ i) → o.apart ops q = true := fun k q hk hki hun hno => by
        refine hfree k q hk hki ?_ hno
        by_cases hjk : j = k
        · subst hjk; exact hjun
        · rw [getD_set_ne true hjk] at hun; exact hun
      refine wpOp_mono (fun b x h3 => ?_) h2
      obtain ⟨y, hl, hA⟩ := h3
      rcases hl with hl | hSx
      · exact absurd hl hjL
      · exact ⟨.inr hSx, ih (listed.setIfInBounds j true) b x hfree2 hri y hSx (by rw [Array.setIfInBounds_comm _ _ hji]; exact hA)⟩
theorem at0 {o : Oper} {l : List Oper} : (o :: l).toArray[0]? = some o := rfl
theorem atS {o x : Oper} {l : List Oper} {n : Nat} (h : l.toArray[n]? = some o) : (x :: l).toArray[n + 1]? = some o := by simpa using h
theorem aZ0 { o : Oper} {l : List Oper} : (o :: l).toArray[0]? = some o := rfl
theorem aZ1 {x0 o : Oper} {l : List Oper} : (x0 :: o :: l).toArray[1]? = some o := rfl
theorem aZ2 {x0 x1 o : Oper} {l : List Oper} : (x0 :: x1 :: o :: l).toArray[2]? = some o := rfl
theorem aZ3 {x0 x1 x2 o : Oper} {l : List Oper} : (x0 :: x1 :: x2 :: o :: l).toArray[3]? = some o := rfl
theorem aZ4 {x0 x1 x2 x3 o : Oper} {l : List Oper} : (x0 :: x1 :: x2 :: x3 :: o :: l).toArray[4]? = some o := rfl
theorem aZ5 {x0 x1 x2 x3 x4 o : Oper} {l : List Oper} : (x0 :: x1 :: x2 :: x3 :: x4 :: o :: l).toArray[5]? = some o := rfl
theorem aZ6 {x0 x1 x2 x3 x4 x5 o : Oper} {l : List Oper} : (x0 :: x1 :: x2 :: x3 :: x4 :: x5 :: o :: l).toArray[6]? = some o := rfl
theorem aZ7 {x0 x1 x2 x3 x4 x5 x6 o : Oper} {l : List Oper} : (x0 :: x1 :: x2 :: x3 :: x4 :: x5 :: x6 :: o :: l).toArray[7]? = some o := rfl
theorem aZ8 {x0 x1 x2 x3 x4 x5 x6 x7 o : Oper} {l : List Oper} : (x0 :: x1 :: x2 :: x3 :: x4 :: x5 :: x6 :: x7 :: o :: l).toArray[8]? = some o := rfl
theorem aZ9 {x0 x1 x2 x3 x4 x5 x6 x7 x8 o : Oper} {l : List Oper} : (x0 :: x1 :: x2 :: x3 :: x4 :: x5 :: x6 :: x7 :: x8 :: o :: l).toArray[9]? = some o := rfl
theorem aZ10 {x0 x1 x2 x3 x4 x5 x6 x7 x8 x9 o : Oper} {l : List Oper} : (x0 :: x1 :: x2 :: x3 :: x4 :: x5 :: x6 :: x7 :: x8 :: x9 :: o :: l).toArray[10]? = some o := rfl
theorem aZ11 {x0 x1 x2 x3 x4 x5 x6 x7 x8 x9 x10 o : Oper} {l : List Oper} : (x0 :: x1 :: x2 :: x3 :: x4 :: x5 :: x6 :: x7 :: x8 :: x9 :: x10 :: o :: l).toArray[11]? = some o := rfl
theorem aZ12 {x0 x1 x2 x3 x4 x5 x6 x7 x8 x9 x10 x11 o : Oper} {l : List Oper} : (x0 :: x1 :: x2 :: x3 :: x4 :: x5 :: x6 :: x7 :: x8 :: x9 :: x10 :: x11 :: o :: l).toArray[12]? = some o := rfl
theorem aZ13 {x0 x1 x2 x3 x4 x5 x6 x7 x8 x9 x10 x11 x12 o : Oper} {l : List Oper} : (x0 :: x1 :: x2 :: x3 :: x4 :: x5 :: x6 :: x7 :: x8 :: x9 :: x10 :: x11 :: x12 :: o :: l).toArray[13]? = some o := rfl
theorem aZ14 {x0 x1 x2 x3 x4 x5 x6 x7 x8 x9 x10 x11 x12 x13 o : Oper} {l : List Oper} : (x0 :: x1 :: x2 :: x3 :: x4 :: x5 :: x6 :: x7 :: x8 :: x9 :: x10 :: x11 :: x12 :: x13 :: o :: l).toArray[14]? = some o := rfl
theorem aZ15 {x0 x1 x2 x3 x4 x5 x6 x7 x8 x9 x10 x11 x12 x13 x14 o : Oper} {l : List Oper} : (x0 :: x1 :: x2 :: x3 :: x4 :: x5 :: x6 :: x7 :: x8 :: x9 :: x10 :: x11 :: x12 :: x13 :: x14 :: o :: l).toArray[15]? = some o := rfl
theorem aZ16 {x0 x1 x2 x3 x4 x5 x6 x7 x8 x9 x10 x11 x12 x13 x14 x15 o : Oper} {l : List Oper} : (x0 :: x1 :: x2 :: x3 :: x4 :: x5 :: x6 :: x7 :: x8 :: x9 :: x10 :: x11 :: x12 :: x13 :: x14 :: x15 :: o :: l).toArray[16]? = some o := rfl
theorem aZ17 {x0 x1 x2 x3 x4 x5 x6 x7 x8 x9 x10 x11 x12 x13 x14 x15 x16 o : Oper} {l : List Oper} : (x0 :: x1 :: x2 :: x3 :: x4 :: x5 :: x6 :: x7 :: x8 :: x9 :: x10 :: x11 :: x12 :: x13 :: x14 :: x15 :: x16 :: o :: l).toArray[17]? = some o := rfl
theorem aZ18 {x0 x1 x2 x3 x4 x5 x6 x7 x8 x9 x10 x11 x12 x13 x14 x15 x16 x17 o : Oper} {l : List Oper} : (x0 :: x1 :: x2 :: x3 :: x4 :: x5 :: x6 :: x7 :: x8 :: x9 :: x10 :: x11 :: x12 :: x13 :: x14 :: x15 :: x16 :: x17 :: o :: l).toArray[18]? = some o := rfl
theorem aZ19 {x0 x1 x2 x3 x4 x5 x6 x7 x8 x9 x10 x11 x12 x13 x14 x15 x16 x17 x18 o : Oper} {l : List Oper} : (x0 :: x1 :: x2 :: x3 :: x4 :: x5 :: x6 :: x7 :: x8 :: x9 :: x10 :: x11 :: x12 :: x13 :: x14 :: x15 :: x16 :: x17 :: x18 :: o :: l).toArray[19]? = some o := rfl
theorem aZ21 {x0 x1 x2 x3 x4 x5 x6 x7 x8 x9 x10 x11 x12 x13 x14 x15 x16 x17 x18 x19 x20 o : Oper} {l : List Oper} : (x0 :: x1 :: x2 :: x3 :: x4 :: x5 :: x6 :: x7 :: x8 :: x9 :: x10 :: x11 :: x12 :: x13 :: x14 :: x15 :: x16 :: x17 :: x18 :: x19 :: x20 :: o :: l).toArray[21]? = some o := rfl
theorem aZ22 {x0 x1 x2 x3 x4 x5 x6 x7 x8 x9 x10 x11 x12 x13 x14 x15 x16 x17 x18 x19 x20 x21 o : Oper} {l : List Oper} : (x0 :: x1 :: x2 :: x3 :: x4 :: x5 :: x6 :: x7 :: x8 :: x9 :: x10 :: x11 :: x12 :: x13 :: x14 :: x15 :: x16 :: x17 :: x18 :: x19 :: x20 :: x21 :: o :: l).toArray[22]? = some o := rfl
theorem aZ23 {x0 x1 x2 x3 x4 x5 x6 x7 x8 x9 x10 x11 x12 x13 x14 x15 x16 x17 x18 x19 x20 x21 x22 o : Oper} {l : List Oper} : (x0 :: x1 :: x2 :: x3 :: x4 :: x5 :: x6 :: x7 :: x8 :: x9 :: x10 :: x11 :: x12 :: x13 :: x14 :: x15 :: x16 :: x17 :: x18 :: x19 :: x20 :: x21 :: x22 :: o :: l).toArray[23]? = some o := rfl
theorem aZ24 {x0 x1 x2 x3 x4 x5 x6 x7 x8 x9 x10 x11 x12 x13 x14 x15 x16 x17 x18 x19 x20 x21 x22 x23 o : Oper} {l : List Oper} : (x0 :: x1 :: x2 :: x3 :: x4 :: x5 :: x6 :: x7 :: x8 :: x9 :: x10 :: x11 :: x12 :: x13 :: x14 :: x15 :: x16 :: x17 :: x18 :: x19 :: x20 :: x21 :: x22 :: x23 :: o :: l).toArray[24]? = some o := rfl
theorem aZ25 {x0 x1 x2 x3 x4 x5 x6 x7 x8 x9 x10 x11 x12 x13 x14 x15 x16 x17 x18 x19 x20 x21 x22 x23 x24 o : Oper} {l : List Oper} : (x0 :: x1 :: x2 :: x3 :: x4 :: x5 :: x6 :: x7 :: x8 :: x9 :: x10 :: x11 :: x12 :: x13 :: x14 :: x15 :: x16 :: x17 :: x18 :: x19 :: x20 :: x21 :: x22 :: x23 :: x24 :: o :: l).toArray[25]? = some o := rfl
theorem aZ26 {x0 x1 x2 x3 x4 x5 x6 x7 x8 x9 x10 x11 x12 x13 x14 x15 x16 x17 x18 x19 x20 x21 x22 x23 x24 x25 o : Oper} {l : List Oper} : (x0 :: x1 :: x2 :: x3 :: x4 :: x5 :: x6 :: x7 :: x8 :: x9 :: x10 :: x11 :: x12 :: x13 :: x14 :: x15 :: x16 :: x17 :: x18 :: x19 :: x20 :: x21 :: x22 :: x23 :: x24 :: x25 :: o :: l).toArray[26]? = some o := rfl
theorem aZ27 {x0 x1 x2 x3 x4 x5 x6 x7 x8 x9 x10 x11 x12 x13 x14 x15 x16 x17 x18 x19 x20 x21 x22 x23 x24 x25 x26 o : Oper} {l : List Oper} : (x0 :: x1 :: x2 :: x3 :: x4 :: x5 :: x6 :: x7 :: x8 :: x9 :: x10 :: x11 :: x12 :: x13 :: x14 :: x15 :: x16 :: x17 :: x18 :: x19 :: x20 :: x21 :: x22 :: x23 :: x24 :: x25 :: x26 :: o :: l).toArray[27]? = some o := rfl
theorem aZ29 {x0 x1 x2 x3 x4 x5 x6 x7 x8 x9 x10 x11 x12 x13 x14 x15 x16 x17 x18 x19 x20 x21 x22 x23 x24 x25 x26 x27 x28 o : Oper} {l : List Oper} : (x0 :: x1 :: x2 :: x3 :: x4 :: x5 :: x6 :: x7 :: x8 :: x9 :: x10 :: x11 :: x12 :: x13 :: x14 :: x15 :: x16 :: x17 :: x18 :: x19 :: x20 :: x21 :: x22 :: x23 :: x24 :: x25 :: x26 :: x27 :: x28 :: o :: l).toArray[29]? = some o := rfl
theorem anyL_take {i : Nat} {o : Oper} {v : Value} {n : Nat} {listed : Array Bool} {a : Act} {w : World} (hi : ops[i]? = some o) (hw : waits md ops L i = true)
  (hs : Region.noSelect ops = true) (hf : Region.free md ops listed i = true) (hr : (Region.ready md ops listed).contains i = true)
  (hQ : ∀ c a w, Q (.panic c) (a.put o.dst v) w → Q (.panic c) a w) (hg : o.guard = none) (hy : ∀ w, S w → (execOp a.eval o).run P w = .ok (.value v) w) (hS : S w)
  (h : AnyL P md ops Q S L n (listed.setIfInBounds i true) (a.put o.dst v) w) : AnyL P md ops Q S L (n + 1) listed a w :=
 AnyL.first hi hw (Region.noSelect_spec hs) hQ n listed a w (Region.free_spec hi hf) (by simpa using hr) (.inl ⟨by simp [Region.wanted, hg], hy⟩) hS h
theorem anyL_one {i : Nat} {o : Oper} {n : Nat} {listed : Array Bool} {a : Act} {w : World} (hi : ops[i]? = some o) (hr : Region.ready md ops listed = [i]) (hg : o.guard = none)
  (h : ∀ K : Act → World → Prop, (∀ b x, (i = L ∨ S x) → AnyL P md ops Q S L n (listed.setIfInBounds i true) b x → K b x) → Oper.wp P o a w K Q) : AnyL P md ops Q S L (n + 1) listed a w := by
 refine ⟨fun h0 => absurd (hr ▸ h0) (by simp), ?_⟩
 rw [hr]
 intro j hj
 obtain rfl : j = i := by simpa using hj
 refine wpOp_step hi (fun K hK => ?_)
 have hw : Region.wanted o (yielded ops a.tmps) = true := by simp [Region.wanted, hg]
 rw [if_pos hw]
 exact h K (fun b x h1 h2 => hK b x ⟨h1, h2⟩)
def tkB (md : Region.Mode) (ops : Array Oper) (L : Nat) (listed : Array Bool) (i : Nat) : Bool := waits md ops L i && (Region.noSelect ops && (Region.free md ops listed i && (Region.ready md ops listed).contains i))
theorem tkB_all {listed : Array Bool} {i : Nat} (h : tkB md ops L listed i = true) : waits md ops L i = true ∧ Region.noSelect ops = true ∧ Region.free md ops listed i = true ∧ (Region.ready md ops listed).contains i = true := by
 unfold tkB at h
 rw [Bool.and_eq_true, Bool.and_eq_true, Bool.and_eq_true] at h
 exact h
theorem anyL_tk {i : Nat} {o : Oper} {v : Value} {n : Nat} {listed : Array Bool} {a : Act} {w : World} (hi : ops[i]? = some o) (hb : tkB md ops L listed i = true) (hy : ∀ w, S w → (execOp a.eval o).run P w = .ok (.value v) w) (hS : S w)
  (h : AnyL P md ops Q S L n (listed.setIfInBounds i true) (a.put o.dst v) w) (hg : o.guard = none := by rfl) (hQ : ∀ c a w, Q (.panic c) (a.put o.dst v) w → Q (.panic c) a w := by exact fun _ _ _ h => h) : AnyL P md ops Q S L (n + 1) listed a w :=
 anyL_take hi (tkB_all hb).1 (tkB_all hb).2.1 (tkB_all hb).2.2.1 (tkB_all hb).2.2.2 hQ hg hy hS h
theorem anyL_done {n : Nat} {listed : Array Bool} {a : Act} {w : World} (hr : Region.ready md ops listed = []) (h : Q .normal a w) : AnyL P md ops Q S L n listed a w := by
 cases n with
 | zero => exact ⟨hr, h⟩
 | succ n => exact ⟨fun _ => h, by rw [hr]; simp⟩
theorem wp_append_run {o : Oper} {a : Act} {w w' : World} {K : Act → World → Prop} {v1 v2 v3 : Value} (x y : Operand) (t : TypeId) (ho : o.op = .call { callee := .builtin .append, args := #[x, y], argTypes := #[t, t] }) (hx : a.eval x = v1) (hy : a.eval y = v2)
  (hr : (Builtin.append_ #[t, t] o.type #[v1, v2]).run P w = .ok v3 w') (h : K (a.put o.dst v3) w') : o.wp P a w K Q := by
 unfold Oper.wp execOp
 simp only [ho, resolve, invoke, builtin, Sem.run_bind, Sem.run_pure, Result.andThen_ok, List.map_toArray, List.map_cons, List.map_nil, hx, hy, hr]
 exact h
theorem region_anyL (S : World → Prop) (L : Nat) {id : Nat} {a : Act} {w : World} (hm : P.follows .mixedOrders = true) (h : AnyL P .any ops (NoPanic Q) S L ops.size (Array.replicate ops.size false) a w.drew) : (Code.region id ops true).wp P Q a w :=
 wp_region_noPanic (wp_region_any hm (AnyL.any _ _ _ _ h))
end
end Go.Proofs.Ytfpibdaedfilaaa.Wt
