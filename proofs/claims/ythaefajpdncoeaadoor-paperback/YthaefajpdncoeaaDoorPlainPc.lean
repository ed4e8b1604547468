/- The text of a machine, piece by piece (no program in sight). -/
import Derived.Test.YthaefajpdncoeaaDoorPlainPb
namespace Go.Proofs.YthaefajpdncoeaaDoor.Pl
def arcT (a : Ar) : List UInt8 := lineP (partsA a) ++ [10]
def stT (f : Int) : List UInt8 := lineP [wState, finT f] ++ [10]
def headT (z : Int) : List UInt8 := lineP [wStart, startT z] ++ [10]
def txtS (s : St) : List UInt8 := stT s.1 ++ s.2.flatMap arcT
theorem textM_eq (m : Mc) : textM m = headT m.1 ++ m.2.flatMap txtS := by
  unfold textM partsM joinC
  rw [List.map_cons, List.flatMap_cons]
  congr 1
  induction m.2 with
  | nil => rfl
  | cons s l ih =>
    rw [List.flatMap_cons, List.map_append, List.flatMap_append, ih, List.flatMap_cons]
    congr 1
    unfold partsS txtS
    rw [List.map_cons, List.flatMap_cons, List.map_map]
    show stT s.1 ++ _ = _
    congr 1
    induction s.2 with
    | nil => rfl
    | cons a r ih2 => rw [List.map_cons, List.flatMap_cons, List.flatMap_cons, ih2]; rfl
theorem dec_short {n : Int} (h1 : n ≤ 1000000000) : (decT n).length ≤ 10 := dec_len 9 n.toNat (by omega)
theorem arcT_eq (a : Ar) : arcT a = [97, 114, 99, 32] ++ decT a.2.2.2 ++ [32] ++ decT a.1 ++ [32] ++ decT a.2.1 ++ [32] ++ decT a.2.2.1 ++ [10] := by
  simp [arcT, partsA, lineP, wArc]
theorem stT_eq (f : Int) : stT f = [115, 116, 97, 116, 101, 32] ++ finT f ++ [10] := by simp [stT, lineP, wState]
theorem headT_eq (z : Int) : headT z = [115, 116, 97, 114, 116, 32] ++ startT z ++ [10] := by simp [headT, lineP, wStart]
theorem arcT_short {n : Nat} {a : Ar} (hn : n ≤ 60) (h : arcB n a = true) : (arcT a).length ≤ 40 := by
  simp only [arcB, inB, Bool.and_eq_true, decide_eq_true_eq] at h
  have h1 := dec_short (n := a.2.2.2) (by omega)
  have h2 : (decT a.1).length ≤ 4 := dec_len 3 a.1.toNat (by omega)
  have h3 : (decT a.2.1).length ≤ 4 := dec_len 3 a.2.1.toNat (by omega)
  have h4 := dec_short (n := a.2.2.1) (by omega)
  rw [arcT_eq]
  simp only [List.length_append, List.length_cons, List.length_nil]
  omega
theorem fin_short {f : Int} (h : finB f = true) : (finT f).length ≤ 10 := by
  unfold finT
  by_cases e : f = 1000000001
  · rw [if_pos e]; simp [wInf]
  · rw [if_neg e]
    simp [finB, inB, e] at h
    exact dec_short (by omega)
theorem stT_short {f : Int} (h : finB f = true) : (stT f).length ≤ 20 := by
  have := fin_short h
  rw [stT_eq]
  simp only [List.length_append, List.length_cons, List.length_nil]
  omega
theorem headT_short {z : Int} (h : z ≤ 60) : (headT z).length ≤ 20 := by
  rw [headT_eq]
  unfold startT
  have := dec_short (n := z) (by omega)
  split <;> simp only [List.length_append, List.length_cons, List.length_nil] <;> omega
theorem arcs_short {n : Nat} (hn : n ≤ 60) {ar : List Ar} (h : ∀ a ∈ ar, arcB n a = true) : (ar.flatMap arcT).length ≤ 40 * ar.length := by
  induction ar with
  | nil => simp
  | cons a r ih =>
    rw [List.flatMap_cons, List.length_append, List.length_cons]
    have h1 := arcT_short hn (h a (by simp))
    have h2 := ih (fun b hb => h b (by simp [hb]))
    omega
theorem states_short {n : Nat} (hn : n ≤ 60) {l : List St} (h : ∀ s ∈ l, finB s.1 = true ∧ ∀ a ∈ s.2, arcB n a = true) : (l.flatMap txtS).length ≤ 20 * l.length + 40 * arcN l := by
  induction l with
  | nil => simp [arcN]
  | cons s r ih =>
    rw [List.flatMap_cons, List.length_append, List.length_cons]
    have h0 := h s (by simp)
    have h1 := stT_short h0.1
    have h2 := arcs_short hn h0.2
    have h3 := ih (fun t ht => h t (by simp [ht]))
    have h4 : (txtS s).length = (stT s.1).length + (s.2.flatMap arcT).length := by simp [txtS]
    rw [h4]
    simp only [arcN]
    omega
theorem states_take {l : List St} {k : Nat} (h : k < l.length) : (l.take (k + 1)).flatMap txtS = (l.take k).flatMap txtS ++ txtS (el l k) := by rw [take_el h]; simp
theorem arcs_take {ar : List Ar} {k : Nat} (h : k < ar.length) : (ar.take (k + 1)).flatMap arcT = (ar.take k).flatMap arcT ++ arcT (el ar k) := by rw [take_el h]; simp
end Go.Proofs.YthaefajpdncoeaaDoor.Pl
