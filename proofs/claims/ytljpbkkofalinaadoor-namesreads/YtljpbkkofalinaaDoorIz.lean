/- What is wrong with a table of names, or its index. -/
import Derived.Test.YtljpbkkofalinaaDoorIy
import Derived.Test.YtljpbkkofalinaaDoorNmT
namespace Go.Proofs.YtljpbkkofalinaaDoor.Wt
open Go.ChangeShapes Go.WideShapes Go.ChangeAt Go.RowKit Go.Maps
open Go.Proofs.YtljpbkkofalinaaDoor.Pl
set_option linter.unusedVariables false
def IxR (v : Value) (ns : List Nm) (w : World) (e : Ending) (w' : World) : Prop :=
  (faultR ns ≠ 0 ∧ e = .returned (.tuple #[.pointer none, .int .i64 (faultR ns)]) ∧ Below w.heap.size w w') ∨
  (faultR ns = 0 ∧ ∃ b, e = .returned (.tuple #[.pointer (some ⟨b, 0, none⟩), .int .i64 0]) ∧ Idx w.heap.size b v ns w w')
theorem IxR.bad {v : Value} {ns : List Nm} {w w' : World} {r : Int} (h : faultR ns = r) (h0 : r ≠ 0) (hb : Below w.heap.size w w') : IxR v ns w (.returned (.tuple #[.pointer none, .int .i64 r])) w' := .inl ⟨by rw [h]; exact h0, by rw [h], hb⟩
theorem lab_good {x : Int} (h : labB x = true) : ¬ x < 1 ∧ ¬ (1000 : Int) < x := by simp [labB] at h; omega
theorem lab_bad {x : Int} (h : labB x = false) : x < 1 ∨ (¬ x < 1 ∧ (1000 : Int) < x) := by simp [labB] at h; omega
set_option maxHeartbeats 2000000 in
theorem indexed_some (b off cap : Nat) (ns : List Nm) (w : World) (hl : ns.length ≤ 100) (hN : Nms w (.slice (some ⟨b, off, none⟩) ns.length cap) ns) (hbl : b < w.heap.size)
    (hc : ∀ j, j < ns.length → w.cell? ⟨b, off + j * 2, none⟩ = some (.string (nm ns j).1) ∧ w.cell? ⟨b, off + j * 2 + 1, none⟩ = some (.int .i64 (nm ns j).2)) :
    Calls Tryd.prog 25 #[.slice (some ⟨b, off, none⟩) ns.length cap] w fun e w' => IxR (.slice (some ⟨b, off, none⟩) ns.length cap) ns w e w' := by
  have H1 : Hid (labsTo ns ns.length = false → faultR ns = 2) := fun h => fault_lab hl h
  have H2 : Hid (labsTo ns ns.length = true → textsTo ns ns.length = false → faultR ns = 9) := fun h g => fault_text hl h g
  have H3 : Hid (labsTo ns ns.length = true → textsTo ns ns.length = true → faultR ns = if twiceTo ns ns.length = true then 10 else 0) := fun h g => fault_rest hl h g
  have HH : Hid (labsTo ns ns.length = true → textsTo ns ns.length = true → ∀ q w1, w.heap.size ≤ q → Below w.heap.size w w1 → Blk w1 q #[.slice (some ⟨b, off, none⟩) ns.length cap, .int .u32 0, .int .i32 0, .int .u32 0, .map none, .map none] 83 →
      Calls Tryd.prog 36 #[.pointer (some ⟨q, 0, none⟩)] w1 fun e w' => e = .returned (.bool (twiceTo ns ns.length)) ∧ Idx w.heap.size q (.slice (some ⟨b, off, none⟩) ns.length cap) ns w1 w') :=
    fun hL hT q w1 hq h0 hb => hasTwice_first w.heap.size q _ _ _ _ ns w w1 hq hl hL hT hN h0 (Nat.le_refl _) hb
  have HC : Hid (∀ j, j < ns.length → w.cell? ⟨b, off + j * 2, none⟩ = some (.string (nm ns j).1) ∧ w.cell? ⟨b, off + j * 2 + 1, none⟩ = some (.int .i64 (nm ns j).2)) := hc
  clear hc hN
  generalize hn : ns.length = n at *
  clear hn
  have hl' : ¬ (100 : Int) < (n : Int) := by omega
  have hnot : ∀ (x : Bool) (w : World), (Op.unary .not (.bool x)).run Tryd.prog w = .ok (.bool (!x)) w := fun _ _ => rfl
  go_enter Tryd.func25, Tryd.ntmps25
  go_wp2
  go_loopw [14] (fun i wr => ∃ k : Nat, k ≤ n ∧ i = .int .i64 k ∧ Hid (labsTo ns k = true) ∧ Below w.heap.size w wr) (fun i _ => n - (intOf i).toNat)
  case atStart => exact ⟨0, Nat.zero_le _, rfl, rfl, Below.refl _ _⟩
  case round =>
    obtain ⟨k, hk, rfl, hok, hb⟩ := hrel
    have hws := hb.size
    by_cases hlt : k < n
    · have g1 := (hb.cell (p := ⟨b, off + k * 2, none⟩) hbl).trans (HC.out k hlt).1
      have g2 := (hb.cell (p := ⟨b, off + k * 2 + 1, none⟩) hbl).trans (HC.out k hlt).2
      have hlt' : (k : Int) < (n : Int) := by omega
      rcases bool_cases (labB (nm ns k).2) with ho | ho
      · have HO : Hid (labsTo ns (k + 1) = true) := by show _ = _; rw [labsTo_succ, hok.out, ho]; rfl
        obtain ⟨h3, h4⟩ := lab_good ho
        clear ho hok
        generalize (nm ns k).1 = x at g1
        generalize (nm ns k).2 = y at g2 h3 h4
        go_wp2
        go_roundw
        case rel => exact ⟨k + 1, by omega, by go_num, HO, hb.alloc hws _⟩
        case measure => simp [intOf]; omega
      · have HQ : Hid (faultR ns = 2) := H1.out (labsTo_false hlt ho)
        have h3 := lab_bad ho
        clear ho hok
        generalize (nm ns k).1 = x at g1
        generalize (nm ns k).2 = y at g2 h3
        rcases h3 with h3 | ⟨h3, h4⟩
        · go_wp2
          go_ret2
          exact IxR.bad HQ.out (by decide) (hb.alloc hws _)
        · go_wp2
          go_ret2
          exact IxR.bad HQ.out (by decide) (hb.alloc hws _)
    · have hke : k = n := by omega
      have HL : Hid (labsTo ns n = true) := by rw [← hke]; exact hok
      have H2' : Hid (textsTo ns n = false → faultR ns = 9) := fun h => H2.out HL.out h
      have H3' : Hid (textsTo ns n = true → faultR ns = if twiceTo ns n = true then 10 else 0) := fun h => H3.out HL.out h
      have HH' := fun h => HH.out HL.out h
      have HH2 : Hid _ := HH'
      have hnl : ¬ (k : Int) < (n : Int) := by omega
      clear hke hok H1 H2 H3 HL hlt HH HH'
      go_wp2
      go_loopw [29] (fun i wr => ∃ k : Nat, k ≤ n ∧ i = .int .i64 k ∧ Hid (textsTo ns k = true) ∧ Below w.heap.size w wr) (fun i _ => n - (intOf i).toNat)
      case atStart => exact ⟨0, Nat.zero_le _, rfl, rfl, hb⟩
      case round =>
        clear hnl hk hb hws
        obtain ⟨k, hk, rfl, hok, hb⟩ := hrel
        have hws := hb.size
        by_cases hlt : k < n
        · have g1 := (hb.cell (p := ⟨b, off + k * 2, none⟩) hbl).trans (HC.out k hlt).1
          have g2 := (hb.cell (p := ⟨b, off + k * 2 + 1, none⟩) hbl).trans (HC.out k hlt).2
          have hlt' : (k : Int) < (n : Int) := by omega
          rcases bool_cases (textB (nm ns k).1) with ho | ho
          · have HO : Hid (textsTo ns (k + 1) = true) := by show _ = _; rw [textsTo_succ, hok.out, ho]; rfl
            have HI : Hid (textB (nm ns k).1 = true) := ho
            clear ho hok
            generalize (nm ns k).1 = x at g1 HI
            generalize (nm ns k).2 = y at g2
            go_wp2_with (first | (go_at_call 35; (with_reducible refine (isText_any _ _ _ HI.out).mono ?_); rintro e w' ⟨rfl, hb2⟩))
            go_roundw
            case rel => exact ⟨k + 1, by omega, by go_num, HO, (hb.alloc hws _).trans (hb2.mono (by simp; omega))⟩
            case measure => simp [intOf]; omega
          · have HQ : Hid (faultR ns = 9) := H2'.out (textsTo_false hlt ho)
            have HI : Hid (textB (nm ns k).1 = false) := ho
            clear ho hok
            generalize (nm ns k).1 = x at g1 HI
            generalize (nm ns k).2 = y at g2
            go_wp2_with (first | (go_at_call 35; (with_reducible refine (isText_any _ _ _ HI.out).mono ?_); rintro e w' ⟨rfl, hb2⟩))
            go_ret2
            exact IxR.bad HQ.out (by decide) ((hb.alloc hws _).trans (hb2.mono (by simp; omega)))
        · have hke : k = n := by omega
          have HT : Hid (textsTo ns n = true) := by rw [← hke]; exact hok
          have H3 : Hid (faultR ns = if twiceTo ns n = true then 10 else 0) := H3'.out HT.out
          have hnl : ¬ (k : Int) < (n : Int) := by omega
          have HB : Hid (Below w.heap.size w (wr.alloc (.cells #[.slice (some ⟨b, off, none⟩) n cap, .int .u32 0, .int .i32 0, .int .u32 0, .map none, .map none] 83))) := hb.alloc hws _
          have HX := HH2.out HT.out wr.heap.size _ hws HB.out (Blk.made _ _ _)
          clear hke hok H2' H3' hlt HH2 HT
          rcases bool_cases (twiceTo ns n) with ht | ht
          · have HQ : Hid (faultR ns = 10) := by show _ = _; rw [H3.out, if_pos ht]
            rw [ht] at HX
            have HY : Hid (Calls Tryd.prog 36 #[.pointer (some ⟨wr.heap.size, 0, none⟩)] (wr.alloc (.cells #[.slice (some ⟨b, off, none⟩) n cap, .int .u32 0, .int .i32 0, .int .u32 0, .map none, .map none] 83)) fun e w' => e = .returned (.bool true) ∧ Idx w.heap.size wr.heap.size (.slice (some ⟨b, off, none⟩) n cap) ns (wr.alloc (.cells #[.slice (some ⟨b, off, none⟩) n cap, .int .u32 0, .int .i32 0, .int .u32 0, .map none, .map none] 83)) w') := HX
            clear HX H3 ht
            go_wp2_with (first | (go_at_call 36; refine HY.out.mono ?_; rintro e w' ⟨rfl, hI⟩))
            go_ret2
            exact IxR.bad HQ.out (by decide) (HB.out.trans hI.1)
          · have HQ : Hid (faultR ns = 0) := by show _ = _; rw [H3.out, ht]; rfl
            rw [ht] at HX
            have HY : Hid (Calls Tryd.prog 36 #[.pointer (some ⟨wr.heap.size, 0, none⟩)] (wr.alloc (.cells #[.slice (some ⟨b, off, none⟩) n cap, .int .u32 0, .int .i32 0, .int .u32 0, .map none, .map none] 83)) fun e w' => e = .returned (.bool false) ∧ Idx w.heap.size wr.heap.size (.slice (some ⟨b, off, none⟩) n cap) ns (wr.alloc (.cells #[.slice (some ⟨b, off, none⟩) n cap, .int .u32 0, .int .i32 0, .int .u32 0, .map none, .map none] 83)) w') := HX
            clear HX H3 ht
            go_wp2_with (first | (go_at_call 36; refine HY.out.mono ?_; rintro e w' ⟨rfl, hI⟩))
            go_ret2
            exact .inr ⟨HQ.out, _, rfl, hI.from HB.out⟩
theorem indexed_none (a : Option Addr) (cap : Nat) (w : World) (hN : Nms w (.slice a 0 cap) []) :
    Calls Tryd.prog 25 #[.slice a 0 cap] w fun e w' => IxR (.slice a 0 cap) [] w e w' := by
  have HB : Hid (Below w.heap.size w (w.alloc (.cells #[.slice a 0 cap, .int .u32 0, .int .i32 0, .int .u32 0, .map none, .map none] 83))) := (Below.refl _ _).alloc (Nat.le_refl _) _
  have HX := hasTwice_first w.heap.size w.heap.size _ _ _ _ [] w (w.alloc (.cells #[.slice a 0 cap, .int .u32 0, .int .i32 0, .int .u32 0, .map none, .map none] 83)) (Nat.le_refl _) (by simp) rfl rfl hN HB.out (Nat.le_refl _) (Blk.made _ _ _)
  have HY : Hid (Calls Tryd.prog 36 #[.pointer (some ⟨w.heap.size, 0, none⟩)] (w.alloc (.cells #[.slice a 0 cap, .int .u32 0, .int .i32 0, .int .u32 0, .map none, .map none] 83)) fun e w' => e = .returned (.bool false) ∧ Idx w.heap.size w.heap.size (.slice a 0 cap) [] (w.alloc (.cells #[.slice a 0 cap, .int .u32 0, .int .i32 0, .int .u32 0, .map none, .map none] 83)) w') := HX
  clear HX hN
  go_enter Tryd.func25, Tryd.ntmps25
  go_wp2
  refine wp_loop_rounds 1 ?_; rw [rounds_succ]
  go_wp2
  refine wp_loop_rounds 1 ?_; rw [rounds_succ]
  go_wp2_with (first | (go_at_call 36; refine HY.out.mono ?_; rintro e w' ⟨rfl, hI⟩))
  go_ret2
  exact .inr ⟨rfl, _, rfl, hI.from HB.out⟩
theorem indexed_any (v : Value) (ns : List Nm) (w : World) (hN : Nms w v ns) (hm : ns.length ≤ maxLen) :
    Calls Tryd.prog 25 #[v] w fun e w' => IxR v ns w e w' := by
  unfold maxLen at hm
  by_cases hl : ns.length ≤ 100
  · by_cases hz : 0 < ns.length
    · obtain ⟨b, off, cap, rfl, hbl, hc⟩ := hN.plain hz
      exact indexed_some b off cap ns w hl hN hbl hc
    · obtain rfl : ns = [] := List.eq_nil_of_length_eq_zero (by omega)
      obtain ⟨a, cap, rfl⟩ := hN.empty
      exact indexed_none a cap w hN
  · obtain ⟨a, cap, rfl⟩ := hN.sl
    have HQ : Hid (faultR ns = 1) := fault_size (by omega)
    have hl' : (100 : Int) < (ns.length : Int) := by omega
    clear hN
    go_enter Tryd.func25, Tryd.ntmps25
    go_wp2
    go_ret2
    exact IxR.bad HQ.out (by decide) (Below.refl _ _)
theorem indexed_bad (v : Value) (ns : List Nm) (w : World) (hN : Nms w v ns) (hm : ns.length ≤ maxLen) (r : Int) (hr : faultR ns = r) (h0 : r ≠ 0) :
    Calls Tryd.prog 25 #[v] w fun e w' => e = .returned (.tuple #[.pointer none, .int .i64 r]) ∧ Below w.heap.size w w' := by
  subst hr
  refine (indexed_any v ns w hN hm).mono ?_
  rintro e w' (⟨_, h1, h2⟩ | ⟨h, _⟩)
  · exact ⟨h1, h2⟩
  · exact absurd h h0
theorem indexed_ok (v : Value) (ns : List Nm) (w : World) (hN : Nms w v ns) (hm : ns.length ≤ maxLen) (hr : faultR ns = 0) :
    Calls Tryd.prog 25 #[v] w fun e w' => ∃ b, e = .returned (.tuple #[.pointer (some ⟨b, 0, none⟩), .int .i64 0]) ∧ Idx w.heap.size b v ns w w' := by
  refine (indexed_any v ns w hN hm).mono ?_
  rintro e w' (⟨h, _⟩ | ⟨_, h⟩)
  · exact absurd hr h
  · exact h
end Go.Proofs.YtljpbkkofalinaaDoor.Wt
