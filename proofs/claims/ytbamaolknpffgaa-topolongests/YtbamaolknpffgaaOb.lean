/- The reference: the order of all states. -/
import Derived.Test.YtbamaolknpffgaaOa
import Derived.Test.YtbamaolknpffgaaSa
import Derived.Test.YtbamaolknpffgaaMcR
namespace Go.Proofs.Ytbamaolknpffgaa.Pl
/-- The lowest free one of those from c on; -1: none. -/
def LowQ (l : List St) (out : List Int) (c : Nat) (nx : Int) : Prop := (nx = -1 ∧ ∀ p, c ≤ p → p < l.length → ¬ FreeQ l out p) ∨ ∃ q : Nat, nx = (q : Int) ∧ c ≤ q ∧ q < l.length ∧ FreeQ l out q ∧ ∀ p, c ≤ p → p < q → ¬ FreeQ l out p
theorem LowQ.start (l : List St) (out : List Int) : LowQ l out l.length (-1) := .inl ⟨rfl, fun p h1 h2 => by omega⟩
theorem LowQ.skip {l : List St} {out : List Int} {c : Nat} {nx : Int} (h : LowQ l out (c + 1) nx) (hc : ¬ FreeQ l out c) : LowQ l out c nx := by
  rcases h with ⟨h1, h2⟩ | ⟨q, h1, h2, h3, h4, h5⟩
  · refine .inl ⟨h1, fun p hp hl => ?_⟩
    by_cases e : p = c
    · rw [e]; exact hc
    · exact h2 p (by omega) hl
  · refine .inr ⟨q, h1, by omega, h3, h4, fun p hp hl => ?_⟩
    by_cases e : p = c
    · rw [e]; exact hc
    · exact h5 p (by omega) hl
theorem LowQ.put {l : List St} {out : List Int} {c : Nat} (hl : c < l.length) (hc : FreeQ l out c) : LowQ l out c (c : Int) := .inr ⟨c, rfl, Nat.le_refl _, hl, hc, fun p h1 h2 => by omega⟩
theorem LowQ.next {l : List St} {out : List Int} {nx : Int} (h : LowQ l out 0 nx) (h0 : 0 ≤ nx) : NextQ l out nx := by
  rcases h with ⟨h1, _⟩ | ⟨q, h1, _, h3, h4, h5⟩
  · omega
  · exact ⟨q, h1, h3, h4, fun p hp => h5 p (Nat.zero_le _) hp⟩
theorem LowQ.none {l : List St} {out : List Int} {nx : Int} (h : LowQ l out 0 nx) (h0 : nx < 0) : ∀ q, q < l.length → ¬ FreeQ l out q := by
  rcases h with ⟨_, h2⟩ | ⟨q, h1, _⟩
  · exact fun q hq => h2 q (Nat.zero_le _) hq
  · omega
theorem el_setT {l : List Bool} {q j : Nat} (hq : q < l.length) : el (l.set q true) j = if j = q then true else el l j := by
  by_cases h : j = q
  · subst h; rw [if_pos rfl, el_get (by simpa using hq)]; simp
  · rw [if_neg h]; simp [el, List.getElem?_set_ne (Ne.symm h)]
theorem done_set {n : Nat} {bs : List Bool} {out : List Int} {q : Nat} (hl : bs.length = n) (hd : ∀ p, p < n → (el bs p = true ↔ (p : Int) ∈ out)) (hq : q < n) : ∀ p, p < n → (el (bs.set q true) p = true ↔ (p : Int) ∈ out ++ [(q : Int)]) := by
  intro p hp
  rw [el_setT (by omega), List.mem_append, List.mem_singleton]
  split
  · rename_i e; subst e; simp
  · rename_i e
    rw [hd p hp]
    constructor
    · exact fun h => .inl h
    · rintro (h | h)
      · exact h
      · exact absurd (by omega) e
end Go.Proofs.Ytbamaolknpffgaa.Pl
namespace Go.Proofs.Ytbamaolknpffgaa.Wt
open Go.ChangeShapes Go.WideShapes Go.ChangeAt Go.RowKit
open Go.Proofs.Ytbamaolknpffgaa.Pl
set_option linter.unusedVariables false
set_option linter.unusedSimpArgs false
theorem infoIntO : (Try.prog.info? 3).map (fun i => (i.zero, i.size, i.bytes)) = some (some (.int .i64 0), 1, 8) := by kernel_rfl
theorem run_boolsO (n : Nat) (hn : n ≤ 1000) (W : World) : (Instr.makeSlice 40 (.int .i64 (n : Int)) (.int .i64 (n : Int))).run Try.prog W = .ok (.slice (some ⟨W.heap.size, 0, none⟩) n n) (W.alloc (.cells ((List.replicate n false).map Value.bool).toArray 4)) := by
  obtain ⟨i1, hi1, hy0, hy1, hy2⟩ := info_parts infoBool
  have h := run_make (P := Try.prog) W 40 4 i1 _ Try.underlying40 hi1 hy0 .i64 .i64 n n (by omega) (by omega) (by rw [hy2]; omega) (by omega)
  rw [hy1, Int.toNat_natCast, made_bools] at h
  exact h
set_option maxRecDepth 100000 in
set_option maxHeartbeats 3200000 in
theorem ordered_ok (v : Value) (m : Mc) (w : World) (h : Mach w v m) (hok : okM m) (hr : faultM m = 0) :
    Calls Try.prog 10 #[v] w fun e w' => ∃ (v' : Value) (ec : Int), e = .returned (.tuple #[v', .int .i64 ec]) ∧ ((ec = 0 ∧ ∃ out, OrderL m.2 out ∧ Nums w' v' out) ∨ (ec = 6 ∧ CycleL m.2 ∧ v' = .slice none 0 0)) ∧ Below w.heap.size w w' := by
  obtain ⟨i1, hi1, hy0, hy1, hy2⟩ := info_parts infoIntO
  obtain ⟨z, l⟩ := m
  obtain ⟨vs, rfl, hS⟩ := h
  obtain ⟨a, cap, rfl⟩ := hS.sl
  have HM : Hid (Mach w (.agg #[.int .i64 z, .slice a l.length cap]) (z, l)) := ⟨_, rfl, hS⟩
  have HK : Hid (okM (z, l)) := hok
  have HR : Hid (faultM (z, l) = 0) := hr
  have h60 := (right_size hr).1
  clear hS hok hr
  simp only
  have HLQ : Hid (∀ out, LowQ l out l.length (-1)) := fun out => LowQ.start l out
  have HFI : Hid (∀ (bs : List Bool) (out : List Int), (∀ p, p < l.length → (el bs p = true ↔ (p : Int) ∈ out)) → ∀ q, q < l.length → (FreeQ l out q ↔ el bs q = false ∧ waitB l bs l.length q = false)) := fun bs out hd q hq => free_iff hd hq
  generalize hn : l.length = n at *
  have HN : Hid (l.length = n) := hn
  clear hn
  have hmk := run_boolsO n (by omega)
  have hnot : ∀ (x : Bool) (w : World), (Op.unary .not (.bool x)).run Try.prog w = .ok (.bool (!x)) w := fun _ _ => rfl
  go_enter Try.func10, Try.ntmps10
  go_wp2_with (first
    | (go_at_call 21; (with_reducible refine (fault_any _ (z, l) _ (HM.out.later (B := w.heap.size) (by go_grown) (Nat.le_refl _)) HK.out _ HR.out).mono ?_); rintro e w1 ⟨rfl, hb⟩; obtain ⟨s1, b1, hb1⟩ := boxed hb (by simp); have K0 : Hid (Blk w1 w.heap.size #[.int .i64 z, .slice a n cap] 24) := b1; have c0 := b1.cell 0 (v := .int .i64 z) rfl; have c1 := b1.cell 1 (v := .slice a n cap) rfl; have HB1 : Hid (Below w.heap.size w w1) := hb1; clear b1 hb1 hb))
  clear c0 c1
  go_loopw [7, 8] (fun s7 i wr => ∃ (k : Nat) (out : List Int) (bs : List Bool) (vo : Value), k ≤ n ∧ vo = s7 ∧ i = .int .i64 k ∧ Hid (out.length = k ∧ StepsL l out ∧ bs.length = n ∧ ∀ p, p < n → (el bs p = true ↔ (p : Int) ∈ out)) ∧ Hid (wr.ownsRow (w1.heap.size + 1) 3 1 vo out.length (out.flatMap encI1)) ∧ Hid (Blk wr w1.heap.size (bs.map Value.bool).toArray 4) ∧ Hid (Blk wr w.heap.size #[.int .i64 z, .slice a n cap] 24) ∧ Hid (Below w.heap.size w wr) ∧ w1.heap.size + 1 ≤ wr.heap.size) (fun _ i _ => n - (intOf i).toNat)
  case atStart => exact ⟨0, [], List.replicate n false, _, Nat.zero_le _, rfl, rfl, ⟨rfl, StepsL.nil l, by simp, fun p _ => by simp [el, List.getElem?_replicate]; split <;> simp⟩, World.ownsRow_nil _ _ _ _, by (show Blk _ _ _ _); rw [show (List.map Value.bool (List.replicate n false)).toArray = Array.replicate n (Value.bool false) from by simp]; exact Blk.made _ _ _, K0.out.alloc _, HB1.out.alloc HB1.out.size _, by simp⟩
  case round =>
    obtain ⟨k, out, bs, vo, hk, rfl, rfl, hst, hown, hblk, hbx, hb, hsz⟩ := hrel
    by_cases hkn : k < n
    · have hkn' : (k : Int) < (n : Int) := by omega
      have k5 : IntKind.i64.wrap ((n : Int) - 1) = (n : Int) - 1 := wrapI (by omega) (by omega)
      have HFR := HFI.out bs out hst.out.2.2.2
      have HFR : Hid (∀ q, q < n → (FreeQ l out q ↔ el bs q = false ∧ waitB l bs n q = false)) := HFR
      have HBL : Hid (bs.length = n) := hst.out.2.2.1
      obtain ⟨wk, hwk⟩ : ∃ wk, wk = wr := ⟨wr, rfl⟩
      subst hwk
      have hBw : w.heap.size < wk.heap.size := hbx.out.lt
      have hDw : w1.heap.size < wk.heap.size := hblk.out.lt
      go_wp2
      go_loopw [9, 10] (fun s9 s10 wr => ∃ (c : Nat) (x nx : Int), c ≤ n ∧ s9 = .int .i64 nx ∧ s10 = .int .i64 x ∧ x + 1 = (c : Int) ∧ Hid (LowQ l out c nx) ∧ Hid (Below wk.heap.size wk wr)) (fun _ s10 _ => (intOf s10 + 1).toNat)
      case atStart => exact ⟨n, (n : Int) - 1, -1, Nat.le_refl _, rfl, rfl, by omega, HLQ.out out, Below.refl _ _⟩
      case round =>
        obtain ⟨c, x, nx, hc, rfl, rfl, hx, hlow, hbi⟩ := hrel
        have c0 := (hbi.out.cell (p := ⟨w.heap.size, 0, none⟩) hBw).trans (hbx.out.cell 0 (v := .int .i64 z) rfl)
        have c1 := (hbi.out.cell (p := ⟨w.heap.size, 1, none⟩) hBw).trans (hbx.out.cell 1 (v := .slice a n cap) rfl)
        cases c with
        | succ c =>
          obtain rfl : x = (c : Int) := by omega
          have hcn : c < n := by omega
          have y0 := (hbi.out.cell (p := ⟨w1.heap.size, c, none⟩) hDw).trans (bool_cell hblk.out (j := c) (by rw [HBL.out]; exact hcn))
          have h0 : (0 : Int) ≤ (c : Int) := by omega
          have h1 : (c : Int) < (n : Int) := by omega
          have k6 : IntKind.i64.wrap ((c : Int) - 1) = (c : Int) - 1 := wrapI (by omega) (by omega)
          have HBI : Hid (Below w.heap.size w wr) := hb.out.trans (hbi.out.mono hb.out.size)
          have HBB : Hid (Bools wr (.slice (some ⟨w1.heap.size, 0, none⟩) n n) bs) := by have h9 := bools_block (cap := n) (hblk.out.below hbi.out hDw); rw [HBL.out] at h9; exact h9
          rcases bool_cases' (el bs c) with e1 | e1
          · rw [e1] at y0
            have HL2 : Hid (LowQ l out c nx) := hlow.out.skip (fun h9 => by have := ((HFR.out c hcn).1 h9).1; rw [e1] at this; cases this)
            clear e1 hlow
            go_wp2
            go_roundw
            case rel => exact ⟨c, (c : Int) - 1, nx, by omega, rfl, rfl, by omega, HL2, hbi⟩
            case measure => simp [intOf]
          · rw [e1] at y0
            rcases bool_cases' (waitB l bs n c) with e2 | e2
            · have HL2 : Hid (LowQ l out c nx) := hlow.out.skip (fun h9 => by have := ((HFR.out c hcn).1 h9).2; rw [e2] at this; cases this)
              have HW : Hid (waitB l bs l.length c = true) := by show _ = _; rw [HN.out]; exact e2
              clear e1 e2 hlow
              go_wp2_with (first
                | (go_at_call 22; (with_reducible refine (waits_any z _ _ l bs c _ (HM.out.later HBI.out (Nat.le_refl _)) HK.out HBB.out (by rw [HN.out]; exact HBL.out) true HW.out).mono ?_); rintro e w2 ⟨rfl, hb2⟩; have HB2 : Hid (Below wk.heap.size wk w2) := hbi.out.trans (hb2.mono hbi.out.size); clear hb2))
              go_roundw
              case rel => exact ⟨c, (c : Int) - 1, nx, by omega, rfl, rfl, by omega, HL2, HB2⟩
              case measure => simp [intOf]
            · have HL2 : Hid (LowQ l out c (c : Int)) := LowQ.put (by rw [HN.out]; exact hcn) ((HFR.out c hcn).2 ⟨e1, e2⟩)
              have HW : Hid (waitB l bs l.length c = false) := by show _ = _; rw [HN.out]; exact e2
              clear e1 e2 hlow
              go_wp2_with (first
                | (go_at_call 22; (with_reducible refine (waits_any z _ _ l bs c _ (HM.out.later HBI.out (Nat.le_refl _)) HK.out HBB.out (by rw [HN.out]; exact HBL.out) false HW.out).mono ?_); rintro e w2 ⟨rfl, hb2⟩; have HB2 : Hid (Below wk.heap.size wk w2) := hbi.out.trans (hb2.mono hbi.out.size); clear hb2))
              go_roundw
              case rel => exact ⟨c, (c : Int) - 1, (c : Int), by omega, rfl, rfl, by omega, HL2, HB2⟩
              case measure => simp [intOf]
        | zero =>
          obtain rfl : x = -1 := by omega
          by_cases h0 : nx < 0
          · have HCY : Hid (CycleL l) := ⟨out, hst.out.2.1, by rw [hst.out.1, HN.out]; exact hkn, hlow.out.none h0⟩
            have HBF : Hid (Below w.heap.size w wr) := hb.out.trans (hbi.out.mono hb.out.size)
            clear hlow
            go_wp2
            exact bodyPost_ret (v := .tuple #[.slice none 0 0, .int .i64 6]) (by simp [results, Try.results10, go_sem]) rfl ⟨_, 6, rfl, .inr ⟨rfl, HCY.out, rfl⟩, HBF.out⟩
          · have hnx := hlow.out.next (by omega)
            obtain ⟨q, hq⟩ : ∃ q : Nat, nx = (q : Int) := ⟨nx.toNat, by omega⟩
            subst hq
            have hqn : q < n := by obtain ⟨q', e, h9, _⟩ := hnx; rw [HN.out] at h9; omega
            have HST2 : Hid ((out ++ [(q : Int)]).length = k + 1 ∧ StepsL l (out ++ [(q : Int)]) ∧ (bs.set q true).length = n ∧ ∀ p, p < n → (el (bs.set q true) p = true ↔ (p : Int) ∈ out ++ [(q : Int)])) := ⟨by simp [hst.out.1], hst.out.2.1.snoc hnx, by simp [HBL.out], done_set HBL.out hst.out.2.2.2 hqn⟩
            have hol := hst.out.1
            have hblk2 := hblk.out.below hbi.out hDw
            have hown2 := ownBelow hown.out hbi.out
            have HBLK : Hid (Blk (wr.setCell ⟨w1.heap.size, q, none⟩ (.bool true)) w1.heap.size ((bs.set q true).map Value.bool).toArray 4) := by have h9 := hblk2.set q (.bool true); rw [set_bool] at h9; exact h9
            have HOWN : Hid ((wr.setCell ⟨w1.heap.size, q, none⟩ (.bool true)).ownsRow (w1.heap.size + 1) 3 1 vo out.length (out.flatMap encI1)) := ownsRow_setCell_below hown2 (by show w1.heap.size < _; omega) _
            have HBX : Hid (Blk (wr.setCell ⟨w1.heap.size, q, none⟩ (.bool true)) w.heap.size #[.int .i64 z, .slice a n cap] 24) := (hbx.out.below hbi.out hBw).setO _ _ (by show w.heap.size ≠ w1.heap.size; omega)
            have HBF : Hid (Below w.heap.size w (wr.setCell ⟨w1.heap.size, q, none⟩ (.bool true))) := (hb.out.trans (hbi.out.mono hb.out.size)).setCell (by show w.heap.size ≤ w1.heap.size; omega) _
            have HSZ : Hid (w1.heap.size + 1 ≤ (wr.setCell ⟨w1.heap.size, q, none⟩ (.bool true)).heap.size) := by simp [World.setCell]; exact Nat.le_trans hsz hbi.out.size
            have y0 := bool_cell hblk2 (j := q) (by rw [HBL.out]; exact hqn)
            have y1 := hblk2.fz q
            have q0 : (0 : Int) ≤ (q : Int) := by omega
            have q1 : (q : Int) < (n : Int) := by omega
            have HONE : Hid (Row 1 encI1 ((wr.setCell ⟨w1.heap.size, q, none⟩ (.bool true)).alloc (.cells #[.int .i64 (q : Int)] 3)) (.slice (some ⟨wr.heap.size, 0, none⟩) 1 1) [(q : Int)]) := by
              have h9 := oneRow (enc := encI1) (wr.setCell ⟨w1.heap.size, q, none⟩ (.bool true)) (q : Int) rfl 3
              have h8 : (wr.setCell ⟨w1.heap.size, q, none⟩ (.bool true)).heap.size = wr.heap.size := by simp [World.setCell]
              rw [h8] at h9
              exact h9
            clear hlow hnx hst hown hblk hbx hb hblk2 hown2
            go_wp2_with (first
              | (at_builtin; refine wpList_append_rows encI1_len (by decide) encI1_one rfl _ _ 26 rfl (w1.heap.size + 1) 3 i1 _ 8 Try.underlying26 hi1 hy0 hy1 hy2 rfl _ out.length (out.flatMap encI1) rfl (HOWN.out.alloc _) _ [(q : Int)] rfl HONE.out (by simp; unfold maxLen; omega) (by simp; omega) (by have := HSZ.out; simp [World.setCell] at this ⊢; omega) ?_; intro v4 w4 ho4 hg4; obtain ⟨HO4, HB4, HZ4⟩ := snocFacts HOWN.out HSZ.out ho4 hg4; clear ho4 hg4))
            go_roundw
            case rel => exact ⟨k + 1, _, bs.set q true, _, by omega, rfl, by go_num, HST2, HO4, HBLK.out.below HB4.out (Nat.lt_succ_self _), HBX.out.below HB4.out (by omega), HBF.out.trans (HB4.out.mono (by omega)), HZ4.out⟩
            case measure => simp [intOf]; omega
    · have hnl : ¬ (k : Int) < (n : Int) := by omega
      have HOR : Hid (OrderL l out) := ⟨hst.out.2.1, by rw [hst.out.1, HN.out]; omega⟩
      have HNU : Hid (Nums wr vo out) := Row.ofOwn encI1_len hown.out rfl
      obtain ⟨ao, co, hvo⟩ := own_sl hown.out
      subst hvo
      clear hst hown
      go_wp2
      exact bodyPost_ret (v := .tuple #[.slice ao out.length co, .int .i64 0]) (by simp [results, Try.results10, go_sem]) rfl ⟨_, 0, rfl, .inl ⟨rfl, out, HOR.out, HNU.out⟩, hb.out⟩
set_option maxRecDepth 100000 in
theorem ordered_bad (v : Value) (m : Mc) (w : World) (h : Mach w v m) (hok : okM m) (r : Int) (hr : faultM m = r) (h0 : ¬ r = 0) :
    Calls Try.prog 10 #[v] w fun e w' => e = .returned (.tuple #[.slice none 0 0, .int .i64 r]) ∧ Below w.heap.size w w' := by
  obtain ⟨z, l⟩ := m
  obtain ⟨vs, rfl, hS⟩ := h
  obtain ⟨a, cap, rfl⟩ := hS.sl
  have HM : Hid (Mach w (.agg #[.int .i64 z, .slice a l.length cap]) (z, l)) := ⟨_, rfl, hS⟩
  have HK : Hid (okM (z, l)) := hok
  have HR : Hid (faultM (z, l) = r) := hr
  clear hS hok hr
  simp only
  have hne : (r != 0) = true := by simpa using h0
  generalize l.length = n at *
  go_enter Try.func10, Try.ntmps10
  go_wp2_with (first
    | (go_at_call 21; (with_reducible refine (fault_any _ (z, l) _ (HM.out.later (B := w.heap.size) (by go_grown) (Nat.le_refl _)) HK.out _ HR.out).mono ?_); rintro e w1 ⟨rfl, hb⟩; obtain ⟨s1, b1, hb1⟩ := boxed hb (by simp); have HB1 : Hid (Below w.heap.size w w1) := hb1; clear b1 hb1 hb))
  exact bodyPost_ret (v := .tuple #[.slice none 0 0, .int .i64 r]) (by simp [results, Try.results10, go_sem]) rfl ⟨rfl, HB1.out⟩
theorem ordered_cycle (v : Value) (m : Mc) (w : World) (h : Mach w v m) (hok : okM m) (hr : faultM m = 0) (hc : CycleL m.2) :
    Calls Try.prog 10 #[v] w fun e w' => e = .returned (.tuple #[.slice none 0 0, .int .i64 6]) ∧ Below w.heap.size w w' := by
  refine (ordered_ok v m w h hok hr).mono ?_
  rintro e w' ⟨v', ec, rfl, ⟨_, out, ho, _⟩ | ⟨rfl, _, rfl⟩, hb⟩
  · exact absurd hc ho.noCycle
  · exact ⟨rfl, hb⟩
theorem ordered_fine (v : Value) (m : Mc) (w : World) (h : Mach w v m) (hok : okM m) (hr : faultM m = 0) (hc : ¬ CycleL m.2) :
    Calls Try.prog 10 #[v] w fun e w' => ∃ v', e = .returned (.tuple #[v', .int .i64 0]) ∧ (∃ out, OrderL m.2 out ∧ Nums w' v' out) ∧ Below w.heap.size w w' := by
  refine (ordered_ok v m w h hok hr).mono ?_
  rintro e w' ⟨v', ec, rfl, ⟨rfl, out, ho, hn⟩ | ⟨_, h9, _⟩, hb⟩
  · exact ⟨v', rfl, ⟨out, ho, hn⟩, hb⟩
  · exact absurd h9 hc
end Go.Proofs.Ytbamaolknpffgaa.Wt
