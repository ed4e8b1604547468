/- The program: the order of all states. -/
import Derived.Test.YtfffelgmgghldabTz
import Derived.Test.YtfffelgmgghldabJ11d
import Derived.Test.YtfffelgmgghldabJ11a
namespace Go.Proofs.Ytfffelgmgghldab.Wt
open Go.ChangeShapes Go.WideShapes Go.ChangeAt Go.RowKit
open Go.Proofs.Ytfffelgmgghldab.Pl
set_option linter.unusedVariables false
set_option linter.unusedSimpArgs false
theorem nums_nil (w : World) : Nums w (.slice none 0 0) [] := .inl ⟨rfl, rfl⟩
set_option maxRecDepth 100000 in
set_option maxHeartbeats 1600000 in
theorem order_any (v : Value) (m : Mc) (w : World) (h : Mach w v m) (hok : okM m) (r : Int) (hr : faultM m = r) :
    Calls Try.prog 28 #[v] w fun e w' => ∃ (v' : Value) (ec : Int), e = .returned (.tuple #[v', .int .i64 ec]) ∧ (∃ out, Nums w' v' out ∧ OrdAns m r ec out) ∧ Below w.heap.size w w' := by
  obtain ⟨z, l⟩ := m
  have HM : Hid (Mach w v (z, l)) := h
  have HK : Hid (okM (z, l)) := hok
  have HR : Hid (faultM (z, l) = r) := hr
  obtain ⟨vs, rfl, hS⟩ := h
  obtain ⟨a, cap, rfl⟩ := hS.sl
  clear hS hok hr
  by_cases h0 : r = 0
  · subst h0
    obtain ⟨n, hn⟩ : ∃ n, l.length = n := ⟨_, rfl⟩
    have HN : Hid (l.length = n) := hn
    simp only
    rw [hn]
    rw [hn] at HM
    clear hn
    go_enter Try.func28, Try.ntmps28
    go_wp2_with (first
      | (go_at_call 16; (with_reducible refine (coreCheck_any _ (z, l) _ (HM.out.later (B := w.heap.size) (by go_grown) (Nat.le_refl _)) HK.out _ HR.out).mono ?_); rintro e w1 ⟨rfl, hb⟩; obtain ⟨s1, b1, hb1⟩ := boxed hb (by simp); have HB1 : Hid (Below w.heap.size w w1) := hb1; have K1 : Hid (Blk w1 w.heap.size #[.int .i64 z, .slice a n cap] 27) := b1; have c0 := b1.cell 0 (v := .int .i64 z) rfl; have c1 := b1.cell 1 (v := .slice a n cap) rfl; clear b1 hb1 hb)
      | (go_at_call 38; (with_reducible refine (told_any z _ l _ (HM.out.later (B := w.heap.size) HB1.out (Nat.le_refl _)) HR.out).mono ?_); rintro e w2 ⟨v2, rfl, ⟨out, hnu, htl⟩, hb⟩; have HB2 : Hid (Below w.heap.size w w2) := HB1.out.trans (hb.mono HB1.out.size); have c2 := (K1.out.below hb K1.out.lt).cell 1 (v := .slice a n cap) rfl; obtain ⟨ao, co, hv2⟩ := Row.sl hnu; subst hv2; have HNU : Hid (Nums w2 (.slice ao out.length co) out) := hnu; have HTL : Hid (ToldL l out) := htl; clear hnu htl hb))
    · rename_i hlt
      have hlt : out.length < l.length := by rw [HN.out]; omega
      exact bodyPost_ret (v := .tuple #[.slice none 0 0, .int .i64 6]) (by simp [results, Try.results28, go_sem]) rfl ⟨_, 6, rfl, ⟨[], nums_nil _, by rw [OrdAns, if_pos rfl]; exact .inr ⟨rfl, HTL.out.cycle hlt, rfl⟩⟩, HB2.out⟩
    · rename_i hlt
      have hlt : ¬ out.length < l.length := by rw [HN.out]; omega
      exact bodyPost_ret (v := .tuple #[.slice ao out.length co, .int .i64 0]) (by simp [results, Try.results28, go_sem]) rfl ⟨_, 0, rfl, ⟨out, HNU.out, by rw [OrdAns, if_pos rfl]; exact .inl ⟨rfl, HTL.out.order hlt⟩⟩, HB2.out⟩
  · have h0' : (r != 0) = true := by simp [h0]
    go_enter Try.func28, Try.ntmps28
    go_wp2_with (first
      | (go_at_call 16; (with_reducible refine (coreCheck_any _ (z, l) _ (HM.out.later (B := w.heap.size) (by go_grown) (Nat.le_refl _)) HK.out _ HR.out).mono ?_); rintro e w1 ⟨rfl, hb⟩; obtain ⟨s1, b1, hb1⟩ := boxed hb (by simp); have HB1 : Hid (Below w.heap.size w w1) := hb1; clear b1 hb1 hb))
    exact bodyPost_ret (v := .tuple #[.slice none 0 0, .int .i64 r]) (by simp [results, Try.results28, go_sem]) rfl ⟨_, r, rfl, ⟨[], nums_nil _, by rw [OrdAns, if_neg h0]; exact ⟨rfl, rfl⟩⟩, HB1.out⟩
end Go.Proofs.Ytfffelgmgghldab.Wt
