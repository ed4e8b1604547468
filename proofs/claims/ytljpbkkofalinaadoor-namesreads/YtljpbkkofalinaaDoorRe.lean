/- What Read answers, in three forms. -/
import Derived.Test.YtljpbkkofalinaaDoorRd
import Derived.Test.YtljpbkkofalinaaDoorPlainD
namespace Go.Proofs.YtljpbkkofalinaaDoor.Wt
open Go.ChangeShapes Go.WideShapes Go.ChangeAt Go.RowKit
open Go.Proofs.YtljpbkkofalinaaDoor.Pl
set_option linter.unusedVariables false
theorem parse_body {p : Nm} (h1 : textB p.1 = true) (h2 : labB p.2 = true) : parseL (bodyL p) = some p := by
  obtain ⟨u, e1, e2, e3⟩ := itoa_lab h2
  obtain ⟨b1, b2⟩ := bef_at 32 p.1.data.toList (Lib.itoa p.2) (fun c hc => (text_bytes h1 c hc).2)
  unfold parseL bodyL
  rw [b1, b2, e3, atoi_dec (by omega), textS_self]
  simp only
  rw [← e1]
theorem parse_all : ∀ ns : List Nm, (∀ p ∈ ns, textB p.1 = true ∧ labB p.2 = true) → (ns.map bodyL).filterMap parseL = ns
  | [], _ => rfl
  | p :: ns, h => by
    have hp := h p (by simp)
    rw [List.map_cons, List.filterMap_cons, parse_body hp.1 hp.2]
    simp only
    rw [parse_all ns (fun q hq => h q (by simp [hq]))]
theorem show_inj {ns ms : List Nm} (h : faultR ns = 0) (g : faultR ms = 0) (e : showS ns = showS ms) : ns = ms := by
  have a := parse_all ns (right_each h)
  have b := parse_all ms (right_each g)
  rw [← lines_show h] at a
  rw [← lines_show g] at b
  rw [e] at a
  rw [← a, b]
theorem body_short {p : Nm} (h1 : textB p.1 = true) (h2 : labB p.2 = true) : (textS (bodyL p)).size ≤ 20000 := by
  have := lineL_short h1 h2
  rw [lineL_body] at this
  show (bodyL p).length ≤ _
  simp at this
  omega
theorem some_lines : ∀ ns : List Nm, (∀ p ∈ ns, textB p.1 = true ∧ labB p.2 = true) → ∃ ys : List Ln, ys.map lnL = ns.map bodyL ∧ allOk ys
  | [], _ => ⟨[], rfl, fun x hx => by simp at hx⟩
  | p :: ns, h => by
    have hp := h p (by simp)
    obtain ⟨ys, h1, h2⟩ := some_lines ns (fun q hq => h q (by simp [hq]))
    refine ⟨⟨textS (bodyL p), body_short hp.1 hp.2⟩ :: ys, by rw [List.map_cons, h1]; rfl, fun x hx => ?_⟩
    rcases List.mem_cons.1 hx with g | g
    · subst g
      show parseL (bodyL p) ≠ none
      rw [parse_body hp.1 hp.2]
      simp
    · exact h2 x g
theorem show_size {ns : List Nm} (h : faultR ns = 0) : (showS ns).size ≤ 20000 := by
  obtain ⟨h1, h2, h3, _⟩ := fault_ok h
  have := textTo_short h2 h3 ns.length (Nat.le_refl _)
  show (textTo ns ns.length).length ≤ _
  omega
theorem read_ok (ns : List Nm) (s : ByteArray) (w : World) (ht : Tab w) (he : Errs w) (hr : faultR ns = 0) (hs : showS ns = s) :
    Calls Tryd.prog 10 #[.string s] w fun e w' => ∃ v, e = .returned (.tuple #[v, .int .i64 0]) ∧ Nms w' v ns ∧ Below w.heap.size w w' := by
  refine (callsIn_wide.1 (read_core s w (by rw [← hs]; exact show_size hr) ht he)).mono ?_
  rintro e w' ⟨hb, ⟨ms, v, rfl, hn, hf, hq⟩ | ⟨_, hno⟩⟩
  · obtain rfl := show_inj hr hf (hs.trans hq.symm)
    exact ⟨v, rfl, hn, hb⟩
  · obtain ⟨ys, h1, h2⟩ := some_lines ns (right_each hr)
    have hl : ys.map lnL = linesL s.data.toList := by rw [← hs, lines_show hr]; exact h1
    have hn : nsOf ys = ns := by rw [nsOf_map, h1, parse_all ns (right_each hr)]
    exact absurd (by rw [hn]; exact ⟨hr, hs⟩) (hno ys hl h2)
theorem read_no (s : ByteArray) (w : World) (hl : s.size ≤ 20000) (ht : Tab w) (he : Errs w) (hs : ∀ ns, faultR ns = 0 → showS ns ≠ s) :
    Calls Tryd.prog 10 #[.string s] w fun e w' => e = .returned (.tuple #[.slice none 0 0, .int .i64 3]) ∧ Below w.heap.size w w' := by
  refine (callsIn_wide.1 (read_core s w hl ht he)).mono ?_
  rintro e w' ⟨hb, ⟨ms, v, rfl, hn, hf, hq⟩ | ⟨rfl, _⟩⟩
  · exact absurd hq (hs ms hf)
  · exact ⟨rfl, hb⟩
theorem read_long (s : ByteArray) (w : World) (hl : 20000 < s.size) :
    Calls Tryd.prog 10 #[.string s] w fun e w' => e = .returned (.tuple #[.slice none 0 0, .int .i64 1]) ∧ Below w.heap.size w w' := by
  have hl' : (20000 : Int) < (s.size : Int) := by omega
  refine (callsIn_wide (n := 10)).1 ?_
  refine callsIn_of_wp_marks Tryd.func10 rfl trivial ?_ rfl
  simp only [Tryd.ntmps10, List.size_toArray, List.length_cons, List.length_nil, Nat.reduceAdd, Nat.reduceSub, Array.replicate_succ, Array.replicate_zero, List.push_toArray, List.append_toArray, List.nil_append, List.cons_append]
  gi_wp2
  refine ⟨.tuple #[.slice none 0 0, .int .i64 1], ?_, rfl, ((Below.refl _ w).alloc (Nat.le_refl _) _).alloc (by simp) _⟩
  simp [results, Tryd.results10, go_sem]
end Go.Proofs.YtljpbkkofalinaaDoor.Wt
