/- arrange.Merged. arrange.Merged where the machine is right, as a machine and an error that are answered. -/
import Derived.Test.YtjpfpdbhdcopbaaJ14t
import Derived.Test.YtjpfpdbhdcopbaaJ14h
import Derived.Test.YtjpfpdbhdcopbaaRn
namespace Go.Proofs.Ytjpfpdbhdcopbaa.Wt
open Go.ChangeShapes Go.WideShapes Go.ChangeAt Go.RowKit
open Go.Proofs.Ytjpfpdbhdcopbaa.Pl
set_option linter.unusedVariables false
set_option linter.unusedSimpArgs false
set_option maxRecDepth 100000 in
theorem compact_own (base : Nat) (v : Value) (l : List Ar) (w : World) (hv : w.ownsRow base 53 4 v l.length (l.flatMap encA)) (hl : l.length * 32 ≤ 140737488351232) :
    Calls Try.prog 41 #[v, .func (.func 42) #[] #[]] w fun e w' => ∃ v', e = .returned v' ∧ w'.ownsRow base 53 4 v' (lightL l).length ((lightL l).flatMap encA) ∧ w.grownBy w' v.ownBlock := by
  by_cases h2 : 2 ≤ l.length
  · rcases hv.2 with ⟨_, h⟩ | ⟨g, cap, cur, rfl, hb, hh, hn, hcap, hcs, htk⟩
    · omega
    · have hcur : cur = (l.flatMap encA ++ cur.toList.drop (l.length * 4)).toArray := by
        rw [← htk, List.take_append_drop]
      have hB : Blk w g (l.flatMap encA ++ cur.toList.drop (l.length * 4)).toArray 53 := by rw [← hcur]; exact hh
      have hlen : (l.flatMap encA ++ cur.toList.drop (l.length * 4)).length = cap * 4 := by
        have e1 := flat_length encA_len l
        have e2 : cur.toList.length = cap * 4 := by rw [Array.length_toList]; exact hcs
        rw [List.length_append, List.length_drop, e1, e2]
        omega
      exact compact_two base g cap l _ w h2 hl hb hcap hn hlen hB
  · have HL : Hid (lightL l = l) := lightL_all (fun j hj => by omega)
    have HV : Hid (w.ownsRow base 53 4 v l.length (l.flatMap encA)) := hv
    obtain ⟨a, cap, rfl⟩ := own_sl hv
    clear hv
    generalize hn : l.length = n at *
    have hn2 : (n : Int) < 2 := by omega
    have HN : Hid (l.length = n) := hn
    clear hn
    go_enter Try.func41, Try.ntmps41
    go_wp2
    go_ret
    exact ⟨_, rfl, by rw [HL.out, HN.out]; exact HV.out, World.grownBy.refl _ _⟩
set_option maxRecDepth 100000 in
theorem put_merge (F K M : Nat) (w0 : World) (hK : KeyAt w0 K false) (hF : F < w0.heap.size) (hc : w0.cell? ⟨F, 0, none⟩ = some (.func (.func 74) #[] #[.pointer (some ⟨K, 0, none⟩)])) (hM : M < w0.heap.size) (hm : w0.cell? ⟨M, 0, none⟩ = some (.func (.func 64) #[] #[.pointer (some ⟨F, 0, none⟩)])) :
    PutAt 40 #[.pointer (some ⟨M, 0, none⟩)] (fun l => lightL (sortS false l)) w0 := by
  intro W base v l hW hB hv hl
  have eg : ∀ args w, (callFunc 64 args).run Try.prog w = .ok (.enter 64 args) w := enters_of Try.func64 (by kernel_rfl) rfl
  have hc' := (hW.cell (p := ⟨M, 0, none⟩) hM).trans hm
  have HC : Hid (Calls Try.prog 64 #[v, .pointer (some ⟨F, 0, none⟩)] W fun e w' => e = .returned v ∧ w'.ownsRow base 53 4 v (sortS false l).length ((sortS false l).flatMap encA) ∧ W.grownBy w' v.ownBlock) := sorted_same false K F w0 W base v l hK hF hc hW hB hv hl
  have HL : Hid ((sortS false l).length * 32 ≤ 140737488351232) := by show _ ≤ _; rw [sortS_length]; exact hl
  obtain ⟨a, cap, rfl⟩ := own_sl hv
  clear hc hK hm hv hW
  generalize hsl : sortS false l = sl at *
  have HSL : Hid (sortS false l = sl) := hsl
  clear hsl
  show Calls _ _ #[_, _] _ _
  go_enter Try.func40, Try.ntmps40
  go_wp2_with (first
    | (go_at_fn 64; (with_reducible refine HC.out.mono ?_); rintro e w1 ⟨rfl, ho, hg⟩; have HO : Hid (w1.ownsRow base 53 4 (.slice a l.length cap) sl.length (sl.flatMap encA)) := ho; have HG : Hid (W.grownBy w1 (Value.ownBlock (.slice a l.length cap))) := hg; clear ho hg)
    | (go_at_call 41; (with_reducible refine (compact_own base _ sl _ HO.out HL.out).mono ?_); rintro e w2 ⟨v2, rfl, ho, hg⟩; have HO2 : Hid (w2.ownsRow base 53 4 v2 (lightL sl).length ((lightL sl).flatMap encA)) := ho; have HG2 : Hid (W.grownBy w2 (Value.ownBlock (.slice a l.length cap))) := grown_trans HG.out hg; clear ho hg))
  go_ret
  exact ⟨_, rfl, by simp only [HSL.out]; exact HO2.out, HG2.out⟩
set_option maxRecDepth 100000 in
set_option maxHeartbeats 1000000 in
theorem merged_any (v : Value) (m : Mc) (w : World) (h : Mach w v m) (hok : okM m) (r : Int) (hr : faultM m = r) :
    Calls Try.prog 14 #[v] w fun e w' => ∃ v', e = .returned (.tuple #[v', .int .i64 r]) ∧ MachFrom w.heap.size w' v' (resM r (mapM (fun l => lightL (sortS false l)) m)) ∧ Below w.heap.size w w' := by
  obtain ⟨z, l⟩ := m
  obtain ⟨vs, rfl, hS⟩ := h
  obtain ⟨a, cap, rfl⟩ := hS.sl
  have HM : Hid (Mach w (.agg #[.int .i64 z, .slice a l.length cap]) (z, l)) := ⟨_, rfl, hS⟩
  have HK : Hid (okM (z, l)) := hok
  have HR : Hid (faultM (z, l) = r) := hr
  clear hS hok hr
  simp only
  generalize l.length = n at *
  have eg : ∀ args w, (callFunc 40 args).run Try.prog w = .ok (.enter 40 args) w := enters_of Try.func40 (by kernel_rfl) rfl
  go_enter Try.func14, Try.ntmps14
  go_wp2_with (first
    | (go_at_call 38; (with_reducible refine (sortedBy_any false 0 1 _ ⟨by simp, by simp⟩).mono ?_); rintro e w1 ⟨fv, rfl, ⟨F, Ky, rfl, hF, hKy, hcF⟩, hb⟩; obtain ⟨s1, b0, b1, hb1⟩ := boxed2 hb (by simp); have s2 : w.heap.size < w1.heap.size := (by omega); have s3 : w.heap.size + 1 < w1.heap.size := (by omega); have HF : Hid (F < w1.heap.size) := hF; have HKy : Hid (KeyAt w1 Ky false) := hKy; have HcF : Hid (w1.cell? ⟨F, 0, none⟩ = some (.func (.func 74) #[] #[.pointer (some ⟨Ky, 0, none⟩)])) := hcF; have HB1 : Hid (Below w.heap.size w w1) := hb1; have c0 := b0.cell 0 (v := .int .i64 z) rfl; have c1 := b0.cell 1 (v := .slice a n cap) rfl; have K1 : Hid (Blk w1 (w.heap.size + 1) #[.int .i64 0, .slice none 0 0] 24) := b1; clear hb hb1 b0 b1 hF hKy hcF)
    | (go_at_call 39; (with_reducible refine (arranged_any _ (z, l) _ (HM.out.later (HB1.out.alloc HB1.out.size _) (Nat.le_refl _)) HK.out _ _ (fun l => lightL (sortS false l)) eg (put_merge F Ky w1.heap.size _ (HKy.out.below ((Below.refl _ _).alloc (Nat.le_refl _) _) HKy.out.lt) (by have := HF.out; simp; omega) (((((Below.refl _ _).alloc (Nat.le_refl _) _).cell HF.out)).trans HcF.out) (by simp) (by go_cell)) r HR.out).mono ?_); rintro e w2 ⟨v2, rfl, hm2, hb2⟩; obtain ⟨a2, c2, rfl⟩ := hm2.sl; have HM2 : Hid (MachFrom (w.heap.size + 2) w2 _ (resM r (mapM (fun l => lightL (sortS false l)) (z, l)))) := hm2.mono (by simp; omega); have HB2 : Hid (Below w.heap.size w w2) := HB1.out.trans (((Below.refl _ _).alloc (Nat.le_refl _) _ |>.trans (hb2.mono (by simp))).mono HB1.out.size); have k1 := (K1.out.alloc (.cells #[.func (.func 64) #[] #[.pointer (some ⟨F, 0, none⟩)]] 55)).below hb2 (by simp; omega); have e0 := k1.cell 0 (v := .int .i64 0) rfl; have e1 := k1.cell 1 (v := .slice none 0 0) rfl; have f0 := k1.fz 0; have f1 := k1.fz 1; clear hm2 hb2 k1))
  have HMs : Hid (MachFrom w.heap.size _ _ _) := ((HM2.out.set (a := ⟨w.heap.size + 1, 0, none⟩) (by show w.heap.size + 1 < _; omega) (.int .i64 (resM r (mapM (fun l => lightL (sortS false l)) (z, l))).1)).set (a := ⟨w.heap.size + 1, 1, none⟩) (by show w.heap.size + 1 < _; omega) (.slice a2 (resM r (mapM (fun l => lightL (sortS false l)) (z, l))).2.length c2)).mono (by omega)
  have HBs : Hid (Below w.heap.size w _) := (HB2.out.setCell (p := ⟨w.heap.size + 1, 0, none⟩) (by show _ ≤ w.heap.size + 1; omega) (.int .i64 (resM r (mapM (fun l => lightL (sortS false l)) (z, l))).1)).setCell (p := ⟨w.heap.size + 1, 1, none⟩) (by show _ ≤ w.heap.size + 1; omega) (.slice a2 (resM r (mapM (fun l => lightL (sortS false l)) (z, l))).2.length c2)
  clear HM2 HB2
  generalize hMe : resM r (mapM (fun l => lightL (sortS false l)) (z, l)) = M at *
  clear hMe
  exact bodyPost_ret (v := .tuple #[.agg #[.int .i64 M.1, .slice a2 M.2.length c2], .int .i64 r]) (by simp [results, Try.results14, go_sem, *]) rfl ⟨_, rfl, HMs.out, HBs.out⟩
end Go.Proofs.Ytjpfpdbhdcopbaa.Wt
namespace Go.Proofs.Ytjpfpdbhdcopbaa.Wt
open Go.ChangeShapes Go.WideShapes Go.ChangeAt Go.RowKit
open Go.Proofs.Ytjpfpdbhdcopbaa.Pl
set_option linter.unusedVariables false
theorem mergedK_any (v : Value) (m : Mc) (w : World) (h : Mach w v m) (hok : okM m) (hf : faultM m = 0) : Calls Try.prog 14 #[v] w fun e w' => RatRes (mapM (fun l => lightL (sortS false l)) m) 0 w e w' :=
  (merged_any v m w h hok 0 hf).mono fun e w' ⟨v', he, hm, hb⟩ => ⟨v', he, hm.mach, hb⟩
end Go.Proofs.Ytjpfpdbhdcopbaa.Wt
