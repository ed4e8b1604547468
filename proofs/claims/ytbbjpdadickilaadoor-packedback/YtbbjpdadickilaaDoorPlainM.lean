/- Plain facts on tables of names (no program in sight): which texts and labels may be, which table is right, what the maps of places of a table hold. -/
import Derived.WalkKit
import Derived.Maps.Views
import Derived.Test.YtbbjpdadickilaaDoorPlain
namespace Go.Proofs.YtbbjpdadickilaaDoor.Pl
open Go Go.Maps

abbrev Nm := ByteArray × Int
def nm (ns : List Nm) (j : Nat) : Nm := ns[j]?.getD (ByteArray.empty, 0)
def letN (c : Nat) : Bool := (decide (97 ≤ c) && decide (c ≤ 122)) || decide (c = 95)
def digN (c : Nat) : Bool := decide (48 ≤ c) && decide (c ≤ 57)
def byteAt (s : ByteArray) (i : Nat) : Nat := (s[i]?.getD 0).toNat
/-- A letter, or a digit that is not the first byte. -/
def okAt (s : ByteArray) (i : Nat) : Bool := letN (byteAt s i) || (digN (byteAt s i) && decide (0 < i))
def okTo (s : ByteArray) (k : Nat) : Bool := (List.range k).all (okAt s)
def textB (s : ByteArray) : Bool := decide (1 ≤ s.size) && decide (s.size ≤ 12) && okTo s s.size
def labB (n : Int) : Bool := decide (1 ≤ n) && decide (n ≤ 1000)
def clash (ns : List Nm) (i j : Nat) : Bool := decide ((nm ns i).1 = (nm ns j).1) || decide ((nm ns i).2 = (nm ns j).2)
def clashTo (ns : List Nm) (i k : Nat) : Bool := (List.range k).any (clash ns i)
def twiceTo (ns : List Nm) (k : Nat) : Bool := (List.range k).any (fun i => clashTo ns i i)
def labsTo (ns : List Nm) (k : Nat) : Bool := (List.range k).all (fun i => labB (nm ns i).2)
def textsTo (ns : List Nm) (k : Nat) : Bool := (List.range k).all (fun i => textB (nm ns i).1)
def faultR (ns : List Nm) : Int :=
  if 100 < ns.length then 1 else if labsTo ns ns.length = false then 2 else if textsTo ns ns.length = false then 9 else if twiceTo ns ns.length = true then 10 else 0

theorem okTo_succ (s : ByteArray) (k : Nat) : okTo s (k + 1) = (okTo s k && okAt s k) := by simp [okTo, List.range_succ]
theorem labsTo_succ (ns : List Nm) (k : Nat) : labsTo ns (k + 1) = (labsTo ns k && labB (nm ns k).2) := by simp [labsTo, List.range_succ]
theorem textsTo_succ (ns : List Nm) (k : Nat) : textsTo ns (k + 1) = (textsTo ns k && textB (nm ns k).1) := by simp [textsTo, List.range_succ]
theorem clashTo_succ (ns : List Nm) (i k : Nat) : clashTo ns i (k + 1) = (clashTo ns i k || clash ns i k) := by simp [clashTo, List.range_succ]
theorem twiceTo_succ (ns : List Nm) (k : Nat) : twiceTo ns (k + 1) = (twiceTo ns k || clashTo ns k k) := by simp [twiceTo, List.range_succ]
theorem all_false {p : Nat → Bool} {n k : Nat} (h : k < n) (hf : p k = false) : (List.range n).all p = false := by
  rw [List.all_eq_false]; exact ⟨k, List.mem_range.2 h, by simp [hf]⟩
theorem any_true {p : Nat → Bool} {n k : Nat} (h : k < n) (hf : p k = true) : (List.range n).any p = true := by
  rw [List.any_eq_true]; exact ⟨k, List.mem_range.2 h, hf⟩
theorem okTo_false {s : ByteArray} {n k : Nat} (h : k < n) (hf : okAt s k = false) : okTo s n = false := all_false h hf
theorem labsTo_false {ns : List Nm} {n k : Nat} (h : k < n) (hf : labB (nm ns k).2 = false) : labsTo ns n = false := all_false h hf
theorem textsTo_false {ns : List Nm} {n k : Nat} (h : k < n) (hf : textB (nm ns k).1 = false) : textsTo ns n = false := all_false h hf
theorem clashTo_true {ns : List Nm} {i n k : Nat} (h : k < n) (hf : clash ns i k = true) : clashTo ns i n = true := any_true h hf
theorem twiceTo_true {ns : List Nm} {n k : Nat} (h : k < n) (hf : clashTo ns k k = true) : twiceTo ns n = true := any_true h hf
theorem twiceTo_false {ns : List Nm} {n : Nat} : twiceTo ns n = false ↔ ∀ i j, j < i → i < n → clash ns i j = false := by
  simp [twiceTo, clashTo, List.any_eq_false]
  constructor
  · intro h i j hj hi; exact h i hi j hj
  · intro h i hi j hj; exact h i j hj hi

theorem fault_size {ns : List Nm} (h : 100 < ns.length) : faultR ns = 1 := by simp [faultR, h]
theorem fault_lab {ns : List Nm} (h : ns.length ≤ 100) (h1 : labsTo ns ns.length = false) : faultR ns = 2 := by simp [faultR, h1]; omega
theorem fault_text {ns : List Nm} (h : ns.length ≤ 100) (h1 : labsTo ns ns.length = true) (h2 : textsTo ns ns.length = false) : faultR ns = 9 := by simp [faultR, h1, h2]; omega
theorem fault_rest {ns : List Nm} (h : ns.length ≤ 100) (h1 : labsTo ns ns.length = true) (h2 : textsTo ns ns.length = true) : faultR ns = if twiceTo ns ns.length = true then 10 else 0 := by
  simp [faultR, h1, h2]; omega
theorem fault_ok {ns : List Nm} (h : faultR ns = 0) : ns.length ≤ 100 ∧ labsTo ns ns.length = true ∧ textsTo ns ns.length = true ∧ twiceTo ns ns.length = false := by
  unfold faultR at h
  split at h
  · simp at h
  · split at h
    · simp at h
    · split at h
      · simp at h
      · split at h
        · simp at h
        · rename_i a b c d
          simp at b c d
          exact ⟨by omega, b, c, d⟩

/-! The maps of places. -/
def textK (s : ByteArray) : Lit := .string s.data.toList
def labK (n : Int) : Lit := .int .i64 n
def place (j : Nat) : DataW Unit := .lit (.int .i64 (j : Int))
def mapTo (f : Nat → Lit) : Nat → DataW Unit
  | 0 => .map []
  | k + 1 => (mapTo f k).put (f k) (place k)
theorem textK_inj {a b : ByteArray} (h : textK a = textK b) : a = b := by
  have := Lit.string.inj h
  cases a; cases b; simp_all
theorem labK_inj {a b : Int} (h : labK a = labK b) : a = b := (Lit.int.inj h).2
theorem mapTo_tidy (f : Nat → Lit) (hf : ∀ k, WideAt.IsKeyLit (f k)) : ∀ k, Tidy (mapTo f k)
  | 0 => tidy_empty
  | k + 1 => (mapTo_tidy f hf k).put (hf k) _
theorem mapTo_look (f : Nat → Lit) (hf : ∀ k, WideAt.IsKeyLit (f k)) (key : Lit) : ∀ k,
    (has (mapTo f k) key = false ∧ ∀ j, j < k → f j ≠ key) ∨ (has (mapTo f k) key = true ∧ ∃ j, j < k ∧ f j = key ∧ ∀ z, (mapTo f k).atKey key z = place j)
  | 0 => .inl ⟨rfl, fun j h => absurd h (Nat.not_lt_zero _)⟩
  | k + 1 => by
    by_cases he : key = f k
    · subst he
      exact .inr ⟨has_put_same (mapTo_tidy f hf k).isMap (hf k) _, k, Nat.lt_succ_self _, rfl, fun z => atKey_put_same (mapTo_tidy f hf k).isMap (hf k) _ _⟩
    · rcases mapTo_look f hf key k with ⟨h1, h2⟩ | ⟨h1, j, h2, h3, h4⟩
      · refine .inl ⟨(has_put_other he _).trans h1, fun j hj => ?_⟩
        rcases Nat.lt_succ_iff_lt_or_eq.1 hj with h | h
        · exact h2 j h
        · subst h; exact fun e => he e.symm
      · exact .inr ⟨(has_put_other he _).trans h1, j, by omega, h3, fun z => (atKey_put_other he _ _).trans (h4 z)⟩
theorem mapTo_size (f : Nat → Lit) (hf : ∀ k, WideAt.IsKeyLit (f k)) : ∀ k,
    size (mapTo f k) ≤ k ∧ ((∀ i j, j < i → i < k → f i ≠ f j) → size (mapTo f k) = k) ∧ ((∃ i j, j < i ∧ i < k ∧ f i = f j) → size (mapTo f k) < k)
  | 0 => ⟨Nat.le_refl _, fun _ => rfl, fun ⟨i, j, _, h, _⟩ => absurd h (Nat.not_lt_zero _)⟩
  | k + 1 => by
    obtain ⟨h1, h2, h3⟩ := mapTo_size f hf k
    have hs : size (mapTo f (k + 1)) = if has (mapTo f k) (f k) then size (mapTo f k) else size (mapTo f k) + 1 := size_put (mapTo_tidy f hf k) _
    rcases mapTo_look f hf (f k) k with ⟨h4, h5⟩ | ⟨h4, j, h5, h6, _⟩
    · rw [h4] at hs
      simp at hs
      refine ⟨by omega, fun h => ?_, fun ⟨i, j, hj, hi, e⟩ => ?_⟩
      · rw [hs, h2 (fun i j hj hi => h i j hj (by omega))]
      · rcases Nat.lt_succ_iff_lt_or_eq.1 hi with h | h
        · have := h3 ⟨i, j, hj, h, e⟩; omega
        · subst h; exact absurd e.symm (h5 j hj)
    · rw [h4] at hs
      simp at hs
      refine ⟨by omega, fun h => absurd h6.symm (h k j h5 (Nat.lt_succ_self _)), fun _ => by omega⟩
def tK (ns : List Nm) (k : Nat) : Lit := textK (nm ns k).1
def lK (ns : List Nm) (k : Nat) : Lit := labK (nm ns k).2
theorem tK_key (ns : List Nm) (k : Nat) : WideAt.IsKeyLit (tK ns k) := trivial
theorem lK_key (ns : List Nm) (k : Nat) : WideAt.IsKeyLit (lK ns k) := trivial
def tMap (ns : List Nm) (k : Nat) : DataW Unit := mapTo (tK ns) k
def lMap (ns : List Nm) (k : Nat) : DataW Unit := mapTo (lK ns) k
theorem tMap_le (ns : List Nm) (k : Nat) : size (tMap ns k) ≤ k := (mapTo_size _ (tK_key ns) k).1
theorem lMap_le (ns : List Nm) (k : Nat) : size (lMap ns k) ≤ k := (mapTo_size _ (lK_key ns) k).1
/-- Names that share a text or a label stand under one key. -/
theorem twice_maps (ns : List Nm) (k : Nat) : twiceTo ns k = (decide (size (tMap ns k) < k) || decide (size (lMap ns k) < k)) := by
  have ht := mapTo_size _ (tK_key ns) k
  have hl := mapTo_size _ (lK_key ns) k
  rcases bool_cases (twiceTo ns k) with h | h
  · rw [h]
    simp only [twiceTo, clashTo, List.any_eq_true, List.mem_range] at h
    obtain ⟨i, hi, j, hj, hc⟩ := h
    simp [clash] at hc
    rcases hc with hc | hc
    · have := ht.2.2 ⟨i, j, hj, hi, by simp [tK, hc]⟩
      simp [tMap, this]
    · have := hl.2.2 ⟨i, j, hj, hi, by simp [lK, hc]⟩
      simp [lMap, this]
  · rw [h]
    rw [twiceTo_false] at h
    have h1 := ht.2.1 (fun i j hj hi e => by have := h i j hj hi; simp [clash] at this; exact this.1 (textK_inj e))
    have h2 := hl.2.1 (fun i j hj hi e => by have := h i j hj hi; simp [clash] at this; exact this.2 (labK_inj e))
    simp [tMap, lMap, h1, h2]
theorem nm_lt {ns : List Nm} {j : Nat} (h : j < ns.length) : nm ns j = ns[j] := by simp [nm, List.getElem?_eq_getElem h]
/-- The place of a text, or that there is none. -/
def textAt (ns : List Nm) (s : ByteArray) (j : Nat) : Prop := j < ns.length ∧ (nm ns j).1 = s
def labAt (ns : List Nm) (n : Int) (j : Nat) : Prop := j < ns.length ∧ (nm ns j).2 = n
theorem tMap_look (ns : List Nm) (s : ByteArray) : (has (tMap ns ns.length) (textK s) = false ∧ ∀ j, ¬ textAt ns s j) ∨ (has (tMap ns ns.length) (textK s) = true ∧ ∃ j, textAt ns s j ∧ ∀ z, (tMap ns ns.length).atKey (textK s) z = place j) := by
  rcases mapTo_look _ (tK_key ns) (textK s) ns.length with ⟨h1, h2⟩ | ⟨h1, j, h2, h3, h4⟩
  · exact .inl ⟨h1, fun j ⟨hj, e⟩ => h2 j hj (by simp [tK, e])⟩
  · exact .inr ⟨h1, j, ⟨h2, textK_inj h3⟩, h4⟩
theorem lMap_look (ns : List Nm) (n : Int) : (has (lMap ns ns.length) (labK n) = false ∧ ∀ j, ¬ labAt ns n j) ∨ (has (lMap ns ns.length) (labK n) = true ∧ ∃ j, labAt ns n j ∧ ∀ z, (lMap ns ns.length).atKey (labK n) z = place j) := by
  rcases mapTo_look _ (lK_key ns) (labK n) ns.length with ⟨h1, h2⟩ | ⟨h1, j, h2, h3, h4⟩
  · exact .inl ⟨h1, fun j ⟨hj, e⟩ => h2 j hj (by simp [lK, e])⟩
  · exact .inr ⟨h1, j, ⟨h2, labK_inj h3⟩, h4⟩
theorem one_text {ns : List Nm} (h : twiceTo ns ns.length = false) {s : ByteArray} {i j : Nat} (hi : textAt ns s i) (hj : textAt ns s j) : i = j := by
  rw [twiceTo_false] at h
  rcases Nat.lt_trichotomy i j with g | g | g
  · have := h j i g hj.1; simp [clash, hi.2, hj.2] at this
  · exact g
  · have := h i j g hi.1; simp [clash, hi.2, hj.2] at this
theorem one_label {ns : List Nm} (h : twiceTo ns ns.length = false) {n : Int} {i j : Nat} (hi : labAt ns n i) (hj : labAt ns n j) : i = j := by
  rw [twiceTo_false] at h
  rcases Nat.lt_trichotomy i j with g | g | g
  · have := h j i g hj.1; simp [clash, hi.2, hj.2] at this
  · exact g
  · have := h i j g hi.1; simp [clash, hi.2, hj.2] at this
/-- The classes of a letter, as the walks ask for them. -/
def badN (r : Int) (k : Nat) : Prop := r < 48 ∨ (48 ≤ r ∧ r ≤ 57 ∧ k = 0) ∨ (57 < r ∧ r < 95) ∨ r = 96 ∨ 122 < r
def goodN (r : Int) (k : Nat) : Prop := (48 ≤ r ∧ r ≤ 57 ∧ 0 < k) ∨ r = 95 ∨ (97 ≤ r ∧ r ≤ 122)
theorem ok_good {s : ByteArray} {k : Nat} (h : okAt s k = true) : goodN (byteAt s k) k := by
  simp [okAt, letN, digN] at h
  unfold goodN
  omega
theorem ok_bad {s : ByteArray} {k : Nat} (h : okAt s k = false) : badN (byteAt s k) k := by
  simp [okAt, letN, digN] at h
  unfold badN
  omega
theorem byteAt_lt {s : ByteArray} {k : Nat} (h : k < s.size) : byteAt s k = (s[k]'h).toNat := by simp [byteAt, h]
theorem textB_true {s : ByteArray} (h1 : 1 ≤ s.size) (h2 : s.size ≤ 12) (h : okTo s s.size = true) : textB s = true := by simp [textB, h]; omega
theorem textB_false {s : ByteArray} (h : okTo s s.size = false) : textB s = false := by simp [textB, h]
theorem textB_long {s : ByteArray} (h : 12 < s.size) : textB s = false := by simp [textB]; omega
theorem textB_none {s : ByteArray} (h : s.size < 1) : textB s = false := by simp [textB]; omega
end Go.Proofs.YtbbjpdadickilaaDoor.Pl
