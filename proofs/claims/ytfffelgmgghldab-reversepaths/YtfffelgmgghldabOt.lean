/- The program: two counts joined; what the counts of all ends come to. -/
import Derived.Test.YtfffelgmgghldabTx
import Derived.Test.YtfffelgmgghldabJ11e
import Derived.Shelf.Abstract
namespace Go.Proofs.Ytfffelgmgghldab.Wt
open Go.ChangeShapes Go.WideShapes Go.ChangeAt Go.RowKit
open Go.Proofs.Ytfffelgmgghldab.Pl
set_option linter.unusedVariables false
set_option linter.unusedSimpArgs false
set_option maxRecDepth 100000 in
theorem bothWays_any (x y : Int) (hx : 0 ≤ x ∧ x ≤ 1000000001) (hy : 0 ≤ y ∧ y ≤ 1000000001) (w : World) :
    Calls Try.prog 31 #[.int .i64 x, .int .i64 y] w fun e w' => e = .returned (.int .i64 (min (x + y) 1000000001)) ∧ w' = w := by
  obtain ⟨hx0, hx1⟩ := hx
  obtain ⟨hy0, hy1⟩ := hy
  go_enter Try.func31, Try.ntmps31
  go_wp2
  all_goals go_ret
  all_goals exact ⟨congrArg (fun t => Ending.returned (Value.int .i64 t)) (by omega), rfl⟩
/-- What a function makes of two numbers from lo on. -/
def AskJ (g : Nat) (J : Int → Int → Int) (lo : Int) : Prop :=
  (∀ ar W, (callFunc g ar).run Try.prog W = .ok (.enter g ar) W) ∧
  ∀ x y : Int, lo ≤ x ∧ x ≤ 1000000001 → lo ≤ y ∧ y ≤ 1000000001 → (lo ≤ J x y ∧ J x y ≤ 1000000001) ∧ ∀ W : World, Calls Try.prog g #[.int .i64 x, .int .i64 y] W fun e w' => e = .returned (.int .i64 (J x y)) ∧ w' = W
/-- What the counts of the ends among the first k states come to. -/
def endsF (J : Int → Int → Int) (l : List St) (ns : List Int) (first : Int) : Nat → Int
  | 0 => first
  | k + 1 => if (el l k).1 = 1000000001 then endsF J l ns first k else J (endsF J l ns first k) (el ns k)
theorem endsF_in {g : Nat} {J : Int → Int → Int} {lo : Int} (h : AskJ g J lo) (l : List St) (ns : List Int) {first : Int} (hf : lo ≤ first ∧ first ≤ 1000000001) {n : Nat} (hns : ∀ j, j < n → lo ≤ el ns j ∧ el ns j ≤ 1000000001) : ∀ k, k ≤ n → lo ≤ endsF J l ns first k ∧ endsF J l ns first k ≤ 1000000001 := by
  intro k
  induction k with
  | zero => intro _; exact hf
  | succ k ih =>
    intro hk
    simp only [endsF]
    split
    · exact ih (by omega)
    · exact (h.2 _ _ (ih (by omega)) (hns k (by omega))).1
set_option maxRecDepth 100000 in
set_option maxHeartbeats 1600000 in
theorem atEnds_any (z : Int) (vs : Value) (l : List St) (vn : Value) (ns : List Int) (first : Int) (g : Nat) (J : Int → Int → Int) (lo : Int) (w : World) (h : Mach w (.agg #[.int .i64 z, vs]) (z, l)) (h60 : l.length ≤ 60) (hn : Nums w vn ns) (hnl : ns.length = l.length) (hf : lo ≤ first ∧ first ≤ 1000000001) (hns : ∀ j, j < l.length → lo ≤ el ns j ∧ el ns j ≤ 1000000001) (hg : AskJ g J lo) :
    Calls Try.prog 29 #[.agg #[.int .i64 z, vs], vn, .int .i64 first, .func (.func g) #[] #[]] w fun e w' => e = .returned (.int .i64 (endsF J l ns first l.length)) ∧ Below w.heap.size w w' := by
  have HIN : Hid (∀ k, k ≤ l.length → lo ≤ endsF J l ns first k ∧ endsF J l ns first k ≤ 1000000001) := endsF_in hg l ns hf hns
  obtain ⟨eg, hg⟩ := hg
  have HG : Hid (∀ x y : Int, lo ≤ x ∧ x ≤ 1000000001 → lo ≤ y ∧ y ≤ 1000000001 → (lo ≤ J x y ∧ J x y ≤ 1000000001) ∧ ∀ W : World, Calls Try.prog g #[.int .i64 x, .int .i64 y] W fun e w' => e = .returned (.int .i64 (J x y)) ∧ w' = W) := hg
  have HNS : Hid (∀ j, j < l.length → lo ≤ el ns j ∧ el ns j ≤ 1000000001) := hns
  obtain ⟨vs', hvs, hS⟩ := h
  simp only [Value.agg.injEq, Array.mk.injEq, List.cons.injEq, and_true, true_and] at hvs
  subst hvs
  obtain ⟨a, cap, rfl, hc⟩ := hS.get
  have HC : Hid (∀ j, j < l.length → ∃ b off va, a = some ⟨b, off, none⟩ ∧ b < w.heap.size ∧ w.cell? ⟨b, off + j * 2, none⟩ = some (.int .i64 (el l j).1) ∧ w.cell? ⟨b, off + j * 2 + 1, none⟩ = some va ∧ Arcs w va (el l j).2) := hc
  obtain ⟨xa, ca, hva, hca⟩ := hn.get
  rw [hnl] at hva hca
  subst hva
  have HCA : Hid (∀ j, j < l.length → ∃ b off, xa = some ⟨b, off, none⟩ ∧ b < w.heap.size ∧ w.cell? ⟨b, off + j, none⟩ = some (.int .i64 (el ns j))) := hca
  clear hS hc hn hnl hns hg hca hf
  generalize hnn : l.length = n at *
  have HN : Hid (l.length = n) := hnn
  clear hnn
  go_enter Try.func29, Try.ntmps29
  go_wp2
  go_loopw [9, 16] (fun s9 i wr => ∃ (q : Nat), q ≤ n ∧ s9 = .int .i64 (endsF J l ns first q) ∧ i = .int .i64 q ∧ Hid (Below w.heap.size w wr)) (fun _ i _ => n - (intOf i).toNat)
  case atStart => exact ⟨0, Nat.zero_le _, rfl, rfl, (Below.refl _ _).alloc (Nat.le_refl _) _⟩
  case round =>
    obtain ⟨q, hq, rfl, rfl, hb⟩ := hrel
    by_cases hqn : q < n
    · obtain ⟨b, off, va, rfl, hbl, g0, g1, gA⟩ := HC.out q hqn
      obtain ⟨bn, on, rfl, hbnl, gn⟩ := HCA.out q hqn
      obtain ⟨a2, cap2, hva⟩ := Row.sl gA
      subst hva
      have g0 := (hb.out.cell (p := ⟨b, off + q * 2, none⟩) hbl).trans g0
      have g1 := (hb.out.cell (p := ⟨b, off + q * 2 + 1, none⟩) hbl).trans g1
      have gn := (hb.out.cell (p := ⟨bn, on + q, none⟩) hbnl).trans gn
      have hq0 : (0 : Int) ≤ (q : Int) := by omega
      have hq1 : (q : Int) < (n : Int) := by omega
      have hbw : bn < wr.heap.size := Nat.lt_of_lt_of_le hbnl hb.out.size
      clear gA
      by_cases he : (el l q).1 = 1000000001
      · have HE : Hid (endsF J l ns first (q + 1) = endsF J l ns first q) := by show _ = _; simp only [endsF]; rw [if_pos he]
        rw [he] at g0
        clear he
        go_wp2
        go_roundw
        case rel => exact ⟨q + 1, by omega, by rw [HE.out], by go_num, hb.out.alloc hb.out.size _⟩
        case measure => simp [intOf]; omega
      · have HE : Hid (endsF J l ns first (q + 1) = J (endsF J l ns first q) (el ns q)) := by show _ = _; simp only [endsF]; rw [if_neg he]
        have HJ : Hid (∀ W : World, Calls Try.prog g #[.int .i64 (endsF J l ns first q), .int .i64 (el ns q)] W fun e w' => e = .returned (.int .i64 (J (endsF J l ns first q) (el ns q))) ∧ w' = W) := (HG.out _ _ (HIN.out q (by omega)) (HNS.out q hqn)).2
        generalize (el l q).1 = fin at *
        have hne : (fin != 1000000001) = true := by simp [he]
        generalize endsF J l ns first q = E0 at *
        generalize el ns q = E1 at *
        go_wp2_with (first
          | (go_at_fn g; refine (HJ.out _).mono ?_; rintro e w2 ⟨rfl, rfl⟩))
        go_roundw
        case rel => exact ⟨q + 1, by omega, by rw [HE.out], by go_num, hb.out.alloc hb.out.size _⟩
        case measure => simp [intOf]; omega
    · have hnl : ¬ (q : Int) < (n : Int) := by omega
      obtain rfl : q = n := by omega
      go_wp2
      go_ret
      exact ⟨rfl, hb.out⟩
end Go.Proofs.Ytfffelgmgghldab.Wt
