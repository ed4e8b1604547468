/- Machines as texts: read as they are shown, shown as they are read (no program in sight). -/
import Derived.Test.YtbbjpdadickilaaDoorPlainPa
import Derived.Test.YtbbjpdadickilaaDoorPlainL
namespace Go.Proofs.YtbbjpdadickilaaDoor.Pl
/-- The words of a line, cut at blanks. -/
def wordsL (l : List UInt8) : List (List UInt8) := (cutTo 32 l l.length).1 ++ [cutEnd 32 l]
/-- A line of words. -/
def lineP : List (List UInt8) → List UInt8
  | [] => []
  | [w] => w
  | w :: v :: p => w ++ [32] ++ lineP (v :: p)
theorem lineP_snoc (p : List (List UInt8)) (w : List UInt8) : lineP (p ++ [w]) = joinC 32 p ++ w := by
  induction p with
  | nil => simp [lineP, joinC]
  | cons x p ih =>
    cases p with
    | nil => simp [lineP, joinC]
    | cons y p =>
      show x ++ [32] ++ lineP ((y :: p) ++ [w]) = _
      rw [ih]
      simp [joinC]
theorem words_line {p : List (List UInt8)} (hp : p ≠ []) (h : ∀ x ∈ p, ∀ b ∈ x, b ≠ 32) : wordsL (lineP p) = p := by
  obtain ⟨r, w, rfl⟩ : ∃ r w, p = r ++ [w] := ⟨p.dropLast, p.getLast hp, (List.dropLast_concat_getLast hp).symm⟩
  obtain ⟨h1, h2, h3⟩ := cut_all 32 (lineP (r ++ [w]))
  have h4 := lineP_snoc r w
  obtain ⟨h5, h6⟩ := join_unique 32 _ r _ w h2 (fun x hx => h x (by simp [hx])) h3 (h w (by simp)) (h1.symm.trans h4)
  unfold wordsL
  rw [h5, h6]
theorem line_words (l : List UInt8) : lineP (wordsL l) = l := by
  unfold wordsL
  rw [lineP_snoc]
  exact (cut_all 32 l).1.symm
def textM (m : Mc) : List UInt8 := joinC 10 ((partsM m).map lineP)
/-- What is read of a text. -/
def readT (s : List UInt8) : Option Mc := if cutEnd 10 s = [] then readP ((cutTo 10 s s.length).1.map wordsL) else none
theorem dec_bytes (n : Int) : ∀ b ∈ decT n, 48 ≤ b.toNat ∧ b.toNat ≤ 57 := dd_digits n.toNat
theorem dec_clean (n : Int) : ∀ b ∈ decT n, b ≠ 32 ∧ b ≠ 10 := by
  intro b hb
  have := dec_bytes n b hb
  constructor <;> (intro e; subst e; simp at this)
theorem fin_clean (n : Int) : ∀ b ∈ finT n, b ≠ 32 ∧ b ≠ 10 := by
  intro b hb
  unfold finT at hb
  split at hb
  · simp [wInf] at hb
    rcases hb with rfl | rfl | rfl <;> decide
  · exact dec_clean n b hb
theorem start_clean (n : Int) : ∀ b ∈ startT n, b ≠ 32 ∧ b ≠ 10 := by
  intro b hb
  unfold startT at hb
  split at hb
  · simp at hb; subst hb; decide
  · exact dec_clean n b hb
theorem parts_clean (m : Mc) : ∀ p ∈ partsM m, p ≠ [] ∧ ∀ x ∈ p, ∀ b ∈ x, b ≠ 32 ∧ b ≠ 10 := by
  intro p hp
  unfold partsM at hp
  rcases List.mem_cons.1 hp with rfl | hp
  · refine ⟨by simp, fun x hx b hb => ?_⟩
    simp only [List.mem_cons, List.not_mem_nil, or_false] at hx
    rcases hx with rfl | rfl
    · simp [wStart] at hb
      rcases hb with rfl | rfl | rfl | rfl | rfl <;> decide
    · exact start_clean _ b hb
  · obtain ⟨s, hs, hp⟩ := List.mem_flatMap.1 hp
    unfold partsS at hp
    rcases List.mem_cons.1 hp with rfl | hp
    · refine ⟨by simp, fun x hx b hb => ?_⟩
      simp only [List.mem_cons, List.not_mem_nil, or_false] at hx
      rcases hx with rfl | rfl
      · simp [wState] at hb
        rcases hb with rfl | rfl | rfl | rfl | rfl <;> decide
      · exact fin_clean _ b hb
    · obtain ⟨a, _, rfl⟩ := List.mem_map.1 hp
      refine ⟨by simp [partsA], fun x hx b hb => ?_⟩
      simp only [partsA, List.mem_cons, List.not_mem_nil, or_false] at hx
      rcases hx with rfl | rfl | rfl | rfl | rfl
      · simp [wArc] at hb
        rcases hb with rfl | rfl | rfl <;> decide
      · exact dec_clean _ b hb
      · exact dec_clean _ b hb
      · exact dec_clean _ b hb
      · exact dec_clean _ b hb
theorem line_clean {p : List (List UInt8)} (h : ∀ x ∈ p, ∀ b ∈ x, b ≠ 10) : ∀ b ∈ lineP p, b ≠ 10 := by
  induction p with
  | nil => intro b hb; simp [lineP] at hb
  | cons w p ih =>
    cases p with
    | nil => exact h w (by simp)
    | cons v p =>
      intro b hb
      have hb : b ∈ w ++ [32] ++ lineP (v :: p) := hb
      simp only [List.mem_append, List.mem_singleton] at hb
      rcases hb with (hb | rfl) | hb
      · exact h w (by simp) b hb
      · decide
      · exact ih (fun x hx => h x (by simp [hx])) b hb
/-- A MACHINE IS READ AS IT WAS SHOWN. -/
theorem readT_text {m : Mc} (h : faultM m = 0) : readT (textM m) = some m := by
  obtain ⟨h1, h2, h3⟩ := cut_all 10 (textM m)
  have hc := parts_clean m
  obtain ⟨h5, h6⟩ := join_unique 10 _ ((partsM m).map lineP) _ [] h2 (fun x hx => by
    obtain ⟨p, hp, rfl⟩ := List.mem_map.1 hx
    exact line_clean (fun x hx b hb => ((hc p hp).2 x hx b hb).2)) h3 (by simp) (h1.symm.trans (by simp [textM]))
  unfold readT
  rw [if_pos h6, h5, List.map_map]
  have : (partsM m).map (wordsL ∘ lineP) = partsM m := by
    conv => rhs; rw [← List.map_id (partsM m)]
    refine List.map_congr_left fun p hp => ?_
    exact words_line (hc p hp).1 (fun x hx b hb => ((hc p hp).2 x hx b hb).1)
  rw [this]
  exact read_shown h
/-- AND SHOWN AS IT WAS READ. -/
theorem text_readT {s : List UInt8} {m : Mc} (h : readT s = some m) : textM m = s := by
  unfold readT at h
  split at h
  · rename_i e
    obtain ⟨h1, _, _⟩ := cut_all 10 s
    rw [e, List.append_nil] at h1
    unfold textM
    rw [shown_read h, List.map_map]
    have : (cutTo 10 s s.length).1.map (lineP ∘ wordsL) = (cutTo 10 s s.length).1 := by
      conv => rhs; rw [← List.map_id (cutTo 10 s s.length).1]
      exact List.map_congr_left fun l _ => line_words l
    rw [this]
    exact h1.symm
  · simp at h
/-- A right machine of which this is the text, if there is one. -/
theorem readT_iff {s : List UInt8} {m : Mc} (h : faultM m = 0) : readT s = some m ↔ textM m = s := ⟨text_readT, fun e => by rw [← e]; exact readT_text h⟩
theorem textM_one {m n : Mc} (hm : faultM m = 0) (hn : faultM n = 0) (h : textM m = textM n) : m = n := by
  have h1 := readT_text hm
  rw [h, readT_text hn] at h1
  simpa using h1.symm
/-- What is answered of a text: the machine, the error. -/
def readA (s : List UInt8) (r : Mc) (ec : Int) : Prop := (ec = 0 ∧ faultM r = 0 ∧ textM r = s) ∨ (ec ≠ 0 ∧ r = (0, []) ∧ ∀ m, faultM m = 0 → textM m ≠ s)
end Go.Proofs.YtbbjpdadickilaaDoor.Pl
