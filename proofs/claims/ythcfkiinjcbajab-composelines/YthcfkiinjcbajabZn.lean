/- weigh.Cross, Line: a machine that reads one word and writes another one. -/
import Derived.Test.YthcfkiinjcbajabJ16B
import Derived.Test.YthcfkiinjcbajabJ16p
import Derived.Test.YthcfkiinjcbajabJ16o
namespace Go.Proofs.Ythcfkiinjcbajab.Wt
open Go.ChangeShapes Go.WideShapes Go.ChangeAt Go.RowKit
open Go.Proofs.Ythcfkiinjcbajab.Pl
set_option linter.unusedVariables false
set_option linter.unusedSimpArgs false
theorem two_words {w : World} {vx vy : Value} {x y : List Int} {b : Nat} (hb : Blk w b #[vx, vy] 25) (nx : Nums w vx x) (ny : Nums w vy y) : WdsAt w b [vx, vy] [x, y] := by
  refine ⟨hb, rfl, fun j hj => ?_⟩
  have : j = 0 ∨ j = 1 := by simp at hj; omega
  rcases this with rfl | rfl
  · exact nx
  · exact ny
def stC (x y : List Int) (k j : Nat) : St := if j < k then croS x y j else (0, [])
theorem stC_end {x y : List Int} {n j : Nat} (hn : max x.length y.length = n) (hj : j < n + 1) : el (croM x y).2 j = stC x y n j := by
  unfold croM stC
  rw [hn]
  by_cases h : j < n
  · rw [el_left (by simpa using h), el_range_map _ h, if_pos h]
  · have : j = n := by omega
    subst this
    rw [if_neg h]
    have := el_last ((List.range j).map (croS x y)) ((0, []) : St)
    simp only [List.length_map, List.length_range] at this
    exact this
set_option maxRecDepth 100000 in
set_option maxHeartbeats 3200000 in
theorem crossF_any (vx vy : Value) (x y : List Int) (w : World) (nx : Nums w vx x) (ny : Nums w vy y) :
    Calls Try.prog 23 #[vx, vy] w fun e w' => ∃ v', e = .returned (.tuple #[v', .int .i64 (croE x y)]) ∧ MachFrom w.heap.size w' v' (croR x y) ∧ Below w.heap.size w w' := by
  have HCW : Hid (∀ W b, Below w.heap.size w W → Blk W b #[vx, vy] 25 → Calls Try.prog 38 #[.slice (some ⟨b, 0, none⟩) 2 2] W fun e w' => e = .returned (.int .i64 (croE x y)) ∧ W = w') := fun W b hW hb => by
    have h9 := checkWords_any b [vx, vy] [x, y] 2 W (two_words hb (nx.later hW (Nat.le_refl _)) (ny.later hW (Nat.le_refl _))) rfl (by omega)
    rw [wds_two] at h9
    exact h9
  have k1 := Blk.made (w.alloc (.cells #[.int .i64 0, .slice none 0 0] 28)) #[vx, vy] 25
  have k2 : Below w.heap.size w ((w.alloc (.cells #[.int .i64 0, .slice none 0 0] 28)).alloc (.cells #[vx, vy] 25)) := ((Below.refl w.heap.size w).alloc (Nat.le_refl _) _).alloc (by simp) _
  simp only [World.size_alloc] at k1
  have HC0 := hidP (HCW.out _ _ k2 k1)
  obtain ⟨ax, cx, rfl, _⟩ := nx.get
  obtain ⟨ay, cy, rfl, _⟩ := ny.get
  by_cases hbad : croE x y = 0
  · have hR : croR x y = croM x y := by unfold croR; rw [if_pos hbad]
    rw [hR, hbad]
    rw [hbad] at HC0
    have h12 : x.length ≤ 12 ∧ y.length ≤ 12 := by
      have hx0 : wrdE x = 0 := by
        by_cases g : wrdE x = 0
        · exact g
        · unfold croE at hbad; rw [if_pos g] at hbad; exact hbad
      have hy0 : wrdE y = 0 := by unfold croE at hbad; rw [if_neg (by simp [hx0])] at hbad; exact hbad
      exact ⟨(wrd_parts hx0).1, (wrd_parts hy0).1⟩
    have HLX : Hid (∀ W (k : Nat), Below w.heap.size w W → k ≤ 100 → Calls Try.prog 39 #[.slice ax x.length cx, .int .i64 (k : Int)] W fun e w' => e = .returned (.int .i64 (atW x k)) ∧ W = w') := fun W k hW hk => labelAt_any _ x k W (nx.later hW (Nat.le_refl _)) h12.1 hk
    have HLY : Hid (∀ W (k : Nat), Below w.heap.size w W → k ≤ 100 → Calls Try.prog 39 #[.slice ay y.length cy, .int .i64 (k : Int)] W fun e w' => e = .returned (.int .i64 (atW y k)) ∧ W = w') := fun W k hW hk => labelAt_any _ y k W (ny.later hW (Nat.le_refl _)) h12.2 hk
    have HEN : Hid (∀ n j, max x.length y.length = n → j < n + 1 → el (croM x y).2 j = stC x y n j) := fun n j hn hj => stC_end hn hj
    have HLE : Hid ((croM x y).2.length = max x.length y.length + 1) := by simp [croM, Hid]
    clear hR hbad k1 HCW nx ny
    have hX := h12.1
    have hY := h12.2
    clear h12
    generalize x.length = X at *
    generalize y.length = Y at *
    obtain ⟨n, hn⟩ : ∃ n, max X Y = n := ⟨_, rfl⟩
    have hn12 : n ≤ 12 := by omega
    rw [hn] at HLE
    have HEN2 : Hid (∀ j, j < n + 1 → el (croM x y).2 j = stC x y n j) := fun j hj => HEN.out n j hn hj
    clear HEN
    have hmk := run_states (n + 1) (by omega)
    rw [show ((n + 1 : Nat) : Int) = 1 + (n : Int) by omega] at hmk
    have hkS := hidP (Blk.made ((w.alloc (.cells #[.int .i64 0, .slice none 0 0] 28)).alloc (.cells #[.slice ax X cx, .slice ay Y cy] 25)) ((List.replicate (n + 1) ((0 : Int), Value.slice none 0 0)).flatMap encS).toArray 45)
    have hkB := hidP (k2.alloc (by simp; omega) (.cells ((List.replicate (n + 1) ((0 : Int), Value.slice none 0 0)).flatMap encS).toArray 45))
    simp only [World.size_alloc] at hkS
    clear k2
    obtain ⟨hxy, rfl⟩ | ⟨hxy, rfl⟩ : ((X : Int) < (Y : Int) ∧ n = Y) ∨ (¬ (X : Int) < (Y : Int) ∧ n = X) := by omega
    · go_enter Try.func23, Try.ntmps23
      go_wp2_with (first
        | (go_at_call 38; (with_reducible refine HC0.out.mono ?_); rintro e w1 ⟨rfl, rfl⟩))
      clear hmk HC0
      obtain ⟨S0, hS0⟩ : ∃ S0, S0 = w.heap.size + 1 + 1 := ⟨_, rfl⟩
      rw [← hS0] at hkS
      simp only [← hS0]
      have hSl : w.heap.size + 1 < S0 := by omega
      have HS0 := hidP hS0
      clear hS0
      go_loopw [28] (fun i wr => ∃ (k : Nat) (vs : List (Int × Value)), k ≤ n ∧ i = .int .i64 (k : Int) ∧ vs.length = n + 1 ∧ Hid (Blk wr S0 (vs.flatMap encS).toArray 45) ∧ Hid (∀ j, j < n + 1 → (el vs j).1 = (stC x y k j).1 ∧ wr.ownsRow (S0 + 1) 51 4 (el vs j).2 (stC x y k j).2.length ((stC x y k j).2.flatMap encA)) ∧ Hid (Blk wr w.heap.size #[.int .i64 0, .slice none 0 0] 28) ∧ Hid (Below w.heap.size w wr) ∧ S0 + 1 ≤ wr.heap.size) (fun i _ => n - (intOf i).toNat)
      case atStart =>
        refine ⟨0, List.replicate (n + 1) ((0 : Int), Value.slice none 0 0), Nat.zero_le _, rfl, by simp, hkS, fun j hj => ?_, ((Blk.made _ _ _).alloc _).alloc _, hkB, by have := HS0.out; simp; omega⟩
        have e1 : el (List.replicate (n + 1) ((0 : Int), Value.slice none 0 0)) j = ((0 : Int), Value.slice none 0 0) := by simp [el, hj]
        have e2 : stC x y 0 j = (0, []) := by unfold stC; rw [if_neg (by omega)]
        rw [e1, e2]
        exact ⟨rfl, World.ownsRow_nil _ _ _ _⟩
      case round =>
        clear hkS hkB
        obtain ⟨k, vs, hk, rfl, hvl, hbs, hold, hk0, hb, hws⟩ := hrel
        obtain ⟨w2, hw2⟩ : ∃ w2, w2 = wr := ⟨_, rfl⟩
        subst hw2
        by_cases hlt : k < n
        · have j0 : (0 : Int) ≤ (k : Int) := Int.natCast_nonneg _
          have j1 : (k : Int) < 1 + (n : Int) := by omega
          have j2 : (k : Int) < (n : Int) := by omega
          have HLX2 := hidP (HLX.out w2 k hb.out (by omega))
          have HLY2 := hidP (HLY.out w2 k hb.out (by omega))
          have HST : Hid (croS x y k = (1000000001, [(atW x k, atW y k, 0, (k : Int) + 1)])) := rfl
          generalize atW x k = lx at *
          generalize atW y k = ly at *
          have e0 := hbs.out.cell (k * 2) (v := .int .i64 (el vs k).1) (by rw [List.getElem?_toArray]; exact flat_at encS_len vs k (by omega) 0 (by omega))
          have e1 := hbs.out.cell (k * 2 + 1) (v := (el vs k).2) (by rw [List.getElem?_toArray]; exact flat_at encS_len vs k (by omega) 1 (by omega))
          have f0 := hbs.out.fz (k * 2)
          have f1 := hbs.out.fz (k * 2 + 1)
          have sS := hbs.out.lt
          go_wp2_with (first
            | (go_at_call 39; (with_reducible refine HLX2.out.mono ?_); rintro e w' ⟨rfl, rfl⟩)
            | (go_at_call 39; (with_reducible refine HLY2.out.mono ?_); rintro e w' ⟨rfl, rfl⟩))
          go_roundw
          case rel =>
            refine ⟨k + 1, vs.set k (1000000001, .slice (some ⟨w2.heap.size + 1, 0, none⟩) 1 1), by omega, by go_num, by simp; exact hvl, ?_, ?_, ?_, ?_, ?_⟩
            · have h := (((hbs.out.set (k * 2) (.int .i64 1000000001)).set (k * 2 + 1) (.slice (some ⟨w2.heap.size + 1, 0, none⟩) 1 1)).alloc (.cells #[.int .i64 lx, .int .i64 ly, .int .i64 0, .int .i64 ((k : Int) + 1)] 51)).alloc (.cells #[.int .i64 lx, .int .i64 ly, .int .i64 0, .int .i64 ((k : Int) + 1)] 51)
              rw [set_state (by omega) (1000000001, .slice (some ⟨w2.heap.size + 1, 0, none⟩) 1 1)] at h
              exact h
            · intro j hj
              rw [el_setS (by omega)]
              by_cases hjk : j = k
              · subst hjk
                have e9 : stC x y (j + 1) j = croS x y j := by unfold stC; rw [if_pos (by omega)]
                rw [if_pos rfl, e9, HST.out]
                refine ⟨rfl, ?_⟩
                have h := Blk.made (((w2.setCell ⟨S0, j * 2, none⟩ (.int .i64 1000000001)).setCell ⟨S0, j * 2 + 1, none⟩ (.slice (some ⟨w2.heap.size + 1, 0, none⟩) 1 1)).alloc (.cells #[.int .i64 lx, .int .i64 ly, .int .i64 0, .int .i64 ((j : Int) + 1)] 51)) (([(lx, ly, 0, (j : Int) + 1)] : List Ar).flatMap encA).toArray 51
                simp only [World.size_alloc] at h
                rw [show (World.setCell (World.setCell w2 _ _) _ _).heap.size = w2.heap.size by simp [World.setCell]] at h
                exact arcs_block (B := S0 + 1) h (by omega) (by simp)
              · have e9 : stC x y (k + 1) j = stC x y k j := by unfold stC; simp only [show (j < k + 1) = (j < k) from propext ⟨fun h => by omega, fun h => by omega⟩]
                rw [if_neg hjk, e9]
                obtain ⟨q1, q2⟩ := hold.out j hj
                exact ⟨q1, ((ownsRow_setCell_below (ownsRow_setCell_below q2 (Nat.lt_succ_self _) _) (Nat.lt_succ_self _) _).alloc _).alloc _⟩
            · exact (((hk0.out.setO _ _ (by show w.heap.size ≠ S0; omega)).setO _ _ (by show w.heap.size ≠ S0; omega)).alloc _).alloc _
            · exact (((hb.out.setCell (by show w.heap.size ≤ S0; omega) _).setCell (by show w.heap.size ≤ S0; omega) _).alloc (by have := hb.out.size; simp [World.setCell]; omega) _).alloc (by have := hb.out.size; simp [World.setCell]; omega) _
            · simp [World.setCell]; omega
          case measure => simp [intOf]; omega
        · have hke : k = n := by omega
          have hnl : ¬ (k : Int) < (n : Int) := by omega
          have HX : Hid (∀ w', Agree S0 w2 w' → Sts w' (.slice (some ⟨S0, 0, none⟩) (n + 1) (n + 1)) (croM x y).2) := by
            intro w' hg
            have := sts_block (l := (croM x y).2) (B := S0 + 1) (w := w') (blk_agree hbs.out (Nat.le_refl _) hg) (by rw [HLE.out]; exact hvl) (fun j hj => by
              rw [HLE.out] at hj
              rw [HEN2.out j hj]
              obtain ⟨q1, q2⟩ := hold.out j hj
              rw [hke] at q1 q2
              exact ⟨q1, own_agree q2 (hg.mono (Nat.le_succ _))⟩)
            rw [HLE.out] at this
            exact this
          have e0 := hk0.out.cell 0 (v := .int .i64 0) rfl
          have e1 := hk0.out.cell 1 (v := .slice none 0 0) rfl
          have e2 := hk0.out.fz 0
          have e3 := hk0.out.fz 1
          have HB : Hid (Below w.heap.size w w2) := hb
          clear hold hbs hb hke hk0
          go_wp2
          refine bodyPost_ret (v := .tuple #[.agg #[.int .i64 0, .slice (some ⟨S0, 0, none⟩) (n + 1) (n + 1)], .int .i64 0]) (by simp [results, Try.results23, go_sem, *]) rfl ⟨_, rfl, fun w' hg => ⟨_, rfl, ?_⟩, by (have h := HB.out); go_grown⟩
          exact HX.out w' (((agree_set (by show w.heap.size < _; omega) _).trans (by simp [World.setCell]) (agree_set (by show w.heap.size < _; omega) _)).trans (by simp [World.setCell]) (hg.mono (by omega)))
    · go_enter Try.func23, Try.ntmps23
      go_wp2_with (first
        | (go_at_call 38; (with_reducible refine HC0.out.mono ?_); rintro e w1 ⟨rfl, rfl⟩))
      clear hmk HC0
      obtain ⟨S0, hS0⟩ : ∃ S0, S0 = w.heap.size + 1 + 1 := ⟨_, rfl⟩
      rw [← hS0] at hkS
      simp only [← hS0]
      have hSl : w.heap.size + 1 < S0 := by omega
      have HS0 := hidP hS0
      clear hS0
      go_loopw [28] (fun i wr => ∃ (k : Nat) (vs : List (Int × Value)), k ≤ n ∧ i = .int .i64 (k : Int) ∧ vs.length = n + 1 ∧ Hid (Blk wr S0 (vs.flatMap encS).toArray 45) ∧ Hid (∀ j, j < n + 1 → (el vs j).1 = (stC x y k j).1 ∧ wr.ownsRow (S0 + 1) 51 4 (el vs j).2 (stC x y k j).2.length ((stC x y k j).2.flatMap encA)) ∧ Hid (Blk wr w.heap.size #[.int .i64 0, .slice none 0 0] 28) ∧ Hid (Below w.heap.size w wr) ∧ S0 + 1 ≤ wr.heap.size) (fun i _ => n - (intOf i).toNat)
      case atStart =>
        refine ⟨0, List.replicate (n + 1) ((0 : Int), Value.slice none 0 0), Nat.zero_le _, rfl, by simp, hkS, fun j hj => ?_, ((Blk.made _ _ _).alloc _).alloc _, hkB, by have := HS0.out; simp; omega⟩
        have e1 : el (List.replicate (n + 1) ((0 : Int), Value.slice none 0 0)) j = ((0 : Int), Value.slice none 0 0) := by simp [el, hj]
        have e2 : stC x y 0 j = (0, []) := by unfold stC; rw [if_neg (by omega)]
        rw [e1, e2]
        exact ⟨rfl, World.ownsRow_nil _ _ _ _⟩
      case round =>
        clear hkS hkB
        obtain ⟨k, vs, hk, rfl, hvl, hbs, hold, hk0, hb, hws⟩ := hrel
        obtain ⟨w2, hw2⟩ : ∃ w2, w2 = wr := ⟨_, rfl⟩
        subst hw2
        by_cases hlt : k < n
        · have j0 : (0 : Int) ≤ (k : Int) := Int.natCast_nonneg _
          have j1 : (k : Int) < 1 + (n : Int) := by omega
          have j2 : (k : Int) < (n : Int) := by omega
          have HLX2 := hidP (HLX.out w2 k hb.out (by omega))
          have HLY2 := hidP (HLY.out w2 k hb.out (by omega))
          have HST : Hid (croS x y k = (1000000001, [(atW x k, atW y k, 0, (k : Int) + 1)])) := rfl
          generalize atW x k = lx at *
          generalize atW y k = ly at *
          have e0 := hbs.out.cell (k * 2) (v := .int .i64 (el vs k).1) (by rw [List.getElem?_toArray]; exact flat_at encS_len vs k (by omega) 0 (by omega))
          have e1 := hbs.out.cell (k * 2 + 1) (v := (el vs k).2) (by rw [List.getElem?_toArray]; exact flat_at encS_len vs k (by omega) 1 (by omega))
          have f0 := hbs.out.fz (k * 2)
          have f1 := hbs.out.fz (k * 2 + 1)
          have sS := hbs.out.lt
          go_wp2_with (first
            | (go_at_call 39; (with_reducible refine HLX2.out.mono ?_); rintro e w' ⟨rfl, rfl⟩)
            | (go_at_call 39; (with_reducible refine HLY2.out.mono ?_); rintro e w' ⟨rfl, rfl⟩))
          go_roundw
          case rel =>
            refine ⟨k + 1, vs.set k (1000000001, .slice (some ⟨w2.heap.size + 1, 0, none⟩) 1 1), by omega, by go_num, by simp; exact hvl, ?_, ?_, ?_, ?_, ?_⟩
            · have h := (((hbs.out.set (k * 2) (.int .i64 1000000001)).set (k * 2 + 1) (.slice (some ⟨w2.heap.size + 1, 0, none⟩) 1 1)).alloc (.cells #[.int .i64 lx, .int .i64 ly, .int .i64 0, .int .i64 ((k : Int) + 1)] 51)).alloc (.cells #[.int .i64 lx, .int .i64 ly, .int .i64 0, .int .i64 ((k : Int) + 1)] 51)
              rw [set_state (by omega) (1000000001, .slice (some ⟨w2.heap.size + 1, 0, none⟩) 1 1)] at h
              exact h
            · intro j hj
              rw [el_setS (by omega)]
              by_cases hjk : j = k
              · subst hjk
                have e9 : stC x y (j + 1) j = croS x y j := by unfold stC; rw [if_pos (by omega)]
                rw [if_pos rfl, e9, HST.out]
                refine ⟨rfl, ?_⟩
                have h := Blk.made (((w2.setCell ⟨S0, j * 2, none⟩ (.int .i64 1000000001)).setCell ⟨S0, j * 2 + 1, none⟩ (.slice (some ⟨w2.heap.size + 1, 0, none⟩) 1 1)).alloc (.cells #[.int .i64 lx, .int .i64 ly, .int .i64 0, .int .i64 ((j : Int) + 1)] 51)) (([(lx, ly, 0, (j : Int) + 1)] : List Ar).flatMap encA).toArray 51
                simp only [World.size_alloc] at h
                rw [show (World.setCell (World.setCell w2 _ _) _ _).heap.size = w2.heap.size by simp [World.setCell]] at h
                exact arcs_block (B := S0 + 1) h (by omega) (by simp)
              · have e9 : stC x y (k + 1) j = stC x y k j := by unfold stC; simp only [show (j < k + 1) = (j < k) from propext ⟨fun h => by omega, fun h => by omega⟩]
                rw [if_neg hjk, e9]
                obtain ⟨q1, q2⟩ := hold.out j hj
                exact ⟨q1, ((ownsRow_setCell_below (ownsRow_setCell_below q2 (Nat.lt_succ_self _) _) (Nat.lt_succ_self _) _).alloc _).alloc _⟩
            · exact (((hk0.out.setO _ _ (by show w.heap.size ≠ S0; omega)).setO _ _ (by show w.heap.size ≠ S0; omega)).alloc _).alloc _
            · exact (((hb.out.setCell (by show w.heap.size ≤ S0; omega) _).setCell (by show w.heap.size ≤ S0; omega) _).alloc (by have := hb.out.size; simp [World.setCell]; omega) _).alloc (by have := hb.out.size; simp [World.setCell]; omega) _
            · simp [World.setCell]; omega
          case measure => simp [intOf]; omega
        · have hke : k = n := by omega
          have hnl : ¬ (k : Int) < (n : Int) := by omega
          have HX : Hid (∀ w', Agree S0 w2 w' → Sts w' (.slice (some ⟨S0, 0, none⟩) (n + 1) (n + 1)) (croM x y).2) := by
            intro w' hg
            have := sts_block (l := (croM x y).2) (B := S0 + 1) (w := w') (blk_agree hbs.out (Nat.le_refl _) hg) (by rw [HLE.out]; exact hvl) (fun j hj => by
              rw [HLE.out] at hj
              rw [HEN2.out j hj]
              obtain ⟨q1, q2⟩ := hold.out j hj
              rw [hke] at q1 q2
              exact ⟨q1, own_agree q2 (hg.mono (Nat.le_succ _))⟩)
            rw [HLE.out] at this
            exact this
          have e0 := hk0.out.cell 0 (v := .int .i64 0) rfl
          have e1 := hk0.out.cell 1 (v := .slice none 0 0) rfl
          have e2 := hk0.out.fz 0
          have e3 := hk0.out.fz 1
          have HB : Hid (Below w.heap.size w w2) := hb
          clear hold hbs hb hke hk0
          go_wp2
          refine bodyPost_ret (v := .tuple #[.agg #[.int .i64 0, .slice (some ⟨S0, 0, none⟩) (n + 1) (n + 1)], .int .i64 0]) (by simp [results, Try.results23, go_sem, *]) rfl ⟨_, rfl, fun w' hg => ⟨_, rfl, ?_⟩, by (have h := HB.out); go_grown⟩
          exact HX.out w' (((agree_set (by show w.heap.size < _; omega) _).trans (by simp [World.setCell]) (agree_set (by show w.heap.size < _; omega) _)).trans (by simp [World.setCell]) (hg.mono (by omega)))
  · have hR : croR x y = (0, []) := by unfold croR; rw [if_neg hbad]
    rw [hR]
    clear hR k1 k2 HCW nx ny
    generalize croE x y = ec at *
    go_enter Try.func23, Try.ntmps23
    go_wp2_with (first | (go_at_call 38; (with_reducible refine HC0.out.mono ?_); rintro e w1 ⟨rfl, rfl⟩))
    refine bodyPost_ret (v := .tuple #[.agg #[.int .i64 0, .slice none 0 0], .int .i64 ec]) (by simp [results, Try.results23, go_sem, *]) rfl ⟨_, rfl, fun w' hg => mach_zeroR w', by go_grown⟩
theorem crossP_any (vx vy : Value) (x y : List Int) (w : World) (nx : Nums w vx x) (ny : Nums w vy y) :
    Calls Try.prog 23 #[vx, vy] w fun e w' => RatRes (croR x y) (croE x y) w e w' := by
  refine (crossF_any vx vy x y w nx ny).mono ?_
  rintro e w' ⟨v', rfl, h1, h2⟩
  exact ⟨v', rfl, h1.mach, h2⟩
set_option maxRecDepth 100000 in
set_option maxHeartbeats 1600000 in
theorem lineP_any (v : Value) (x : List Int) (w : World) (nx : Nums w v x) :
    Calls Try.prog 12 #[v] w fun e w' => RatRes (croR x x) (croE x x) w e w' := by
  have HC := hidP (crossF_any v v x x (w.alloc (.cells #[.int .i64 0, .slice none 0 0] 28)) (nx.later ((Below.refl w.heap.size w).alloc (Nat.le_refl _) _) (Nat.le_refl _)) (nx.later ((Below.refl w.heap.size w).alloc (Nat.le_refl _) _) (Nat.le_refl _)))
  clear nx
  generalize croE x x = ec at *
  generalize croR x x = cr at *
  go_enter Try.func12, Try.ntmps12
  go_wp2_with (first | (go_at_call 23; (with_reducible refine HC.out.mono ?_); rintro e w1 ⟨v', rfl, hm, hb⟩; obtain ⟨s1, b1, hb1⟩ := boxed hb (by simp); have HB1 := hidP hb1; have HM := hidP hm; obtain ⟨a9, c9, hv9⟩ := hm.sl; subst hv9; have c0 := b1.cell 0 (v := .int .i64 0) rfl; have c1 := b1.cell 1 (v := .slice none 0 0) rfl; have f0 := b1.fz 0; have f1 := b1.fz 1; clear hm hb hb1 b1))
  refine bodyPost_ret (v := .tuple #[.agg #[.int .i64 cr.1, .slice a9 cr.2.length c9], .int .i64 ec]) (by simp [results, Try.results12, go_sem, *]) rfl ⟨_, rfl, ?_, by (have h := HB1.out); go_grown⟩
  simp only [World.size_alloc] at HM
  exact ((HM.out.set (a := ⟨w.heap.size, 0, none⟩) (by show w.heap.size < _; omega) _).set (a := ⟨w.heap.size, 1, none⟩) (by show w.heap.size < _; omega) _).mach
end Go.Proofs.Ythcfkiinjcbajab.Wt
