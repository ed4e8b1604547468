/- The reference: a machine is read from its text. -/
import Derived.Test.YthaefajpdncoeaaDoorPlainPd
import Derived.Test.YthaefajpdncoeaaDoorMcR
import Derived.Test.YthaefajpdncoeaaDoorMcC
import Derived.Test.YthaefajpdncoeaaDoorOy
import Derived.Test.YthaefajpdncoeaaDoorWq
import Derived.Test.YthaefajpdncoeaaDoorSs
import Derived.Test.YthaefajpdncoeaaDoorRg
import Derived.Test.YthaefajpdncoeaaDoorBlk
namespace Go.Proofs.YthaefajpdncoeaaDoor.Pl
/-- What is answered: the machine, the error. -/
def ReadAns (s : List UInt8) (m : Mc) (ec : Int) : Prop := if 20000 < s.length then ec = 1 ∧ m = (0, []) else match readM s with
  | some m' => ec = 0 ∧ m = m'
  | none => ec = 3 ∧ m = (0, [])
theorem ReadAns.one {s : List UInt8} {m n : Mc} {a b : Int} (h : ReadAns s m a) (k : ReadAns s n b) : m = n ∧ a = b := by
  unfold ReadAns at h k
  split at h
  · rename_i e
    rw [if_pos e] at k
    exact ⟨h.2.trans k.2.symm, h.1.trans k.1.symm⟩
  · rename_i e
    rw [if_neg e] at k
    cases hm : readM s with
    | none => rw [hm] at h k; exact ⟨h.2.trans k.2.symm, h.1.trans k.1.symm⟩
    | some m' => rw [hm] at h k; exact ⟨h.2.trans k.2.symm, h.1.trans k.1.symm⟩
theorem ReadAns.long {s : List UInt8} (h : 20000 < s.length) : ReadAns s (0, []) 1 := by unfold ReadAns; rw [if_pos h]; exact ⟨rfl, rfl⟩
theorem ReadAns.none {s : List UInt8} (h : ¬ 20000 < s.length) (hm : readM s = none) : ReadAns s (0, []) 3 := by unfold ReadAns; rw [if_neg h, hm]; exact ⟨rfl, rfl⟩
theorem ReadAns.some {s : List UInt8} {m : Mc} (h : ¬ 20000 < s.length) (hm : readM s = some m) : ReadAns s m 0 := by unfold ReadAns; rw [if_neg h, hm]; exact ⟨rfl, rfl⟩
/-- The lines of a text. -/
def linesT (s : List UInt8) : List (List UInt8) := (cutTo 10 s s.length).1
theorem readM_end {s : List UInt8} (h : ¬ (cutTo 10 s s.length).2 = s.length) : readM s = none := by
  unfold readM
  rw [if_neg]
  rintro ⟨e, _⟩
  unfold cutEnd at e
  have := cutTo_le 10 s s.length
  have hl : (s.drop (cutTo 10 s s.length).2).length = 0 := by rw [e]; rfl
  rw [List.length_drop] at hl
  omega
theorem readM_empty {s : List UInt8} (h : linesT s = []) : readM s = none := by
  unfold readM
  rw [if_neg]
  rintro ⟨_, e⟩
  exact e h
theorem readM_line {s : List UInt8} {k : Nat} (h : readF (((linesT s).take k).map wordsL) = none) : readM s = none := by
  unfold readM
  split
  · have : readF ((linesT s).map wordsL) = none := by
      rw [← List.take_append_drop k (linesT s), List.map_append]
      exact readF_none h _
    unfold linesT at this
    rw [this]; rfl
  · rfl
theorem readM_all {s : List UInt8} {m : Mc} (he : (cutTo 10 s s.length).2 = s.length) (hl : linesT s ≠ []) (h : readF (((linesT s).take (linesT s).length).map wordsL) = some m) : readM s = if faultM m = 0 then some m else none := by
  rw [List.take_length] at h
  unfold readM
  rw [if_pos ⟨by unfold cutEnd; rw [he]; simp, hl⟩]
  unfold linesT at h
  rw [h]; rfl
theorem lines_count (s : List UInt8) : (linesT s).length ≤ s.length := cutTo_len 10 s s.length
theorem line_size {s x : List UInt8} (h : x ∈ linesT s) : x.length ≤ s.length := by
  have h1 := (cut_all 10 s).1
  have h2 : x.length ≤ (joinC 10 (linesT s)).length := by
    unfold joinC
    have : ∀ l : List (List UInt8), x ∈ l → x.length ≤ (l.flatMap (fun y => y ++ [10])).length := by
      intro l
      induction l with
      | nil => intro h; cases h
      | cons y l ih =>
        intro h
        rw [List.flatMap_cons, List.length_append, List.length_append]
        rcases List.mem_cons.1 h with rfl | h
        · omega
        · have := ih h; omega
    exact this _ h
  have h3 : s.length = (joinC 10 (linesT s)).length + (cutEnd 10 s).length := by
    conv => lhs; rw [h1]
    rw [List.length_append]; rfl
  omega
theorem word_size {l y : List UInt8} (h : y ∈ wordsL l) : y.length ≤ l.length := by
  have h1 := line_words l
  have : ∀ p : List (List UInt8), y ∈ p → y.length ≤ (lineP p).length := by
    intro p
    induction p with
    | nil => intro h; cases h
    | cons w p ih =>
      intro h
      cases p with
      | nil => simp at h; subst h; exact Nat.le_refl _
      | cons v p =>
        show _ ≤ (w ++ [32] ++ lineP (v :: p)).length
        rw [List.length_append, List.length_append]
        rcases List.mem_cons.1 h with rfl | h
        · omega
        · have := ih h; omega
  have h2 := this _ h
  rw [h1] at h2
  exact h2
theorem two_words {p : List (List UInt8)} (h : p.length = 2) : ∃ a b, p = [a, b] := by
  match p, h with
  | [a, b], _ => exact ⟨a, b, rfl⟩
theorem five_words {p : List (List UInt8)} (h : p.length = 5) : ∃ a b c d e, p = [a, b, c, d, e] := by
  match p, h with
  | [a, b, c, d, e], _ => exact ⟨a, b, c, d, e, rfl⟩
/-- So far read: not too much. -/
def FewL (k : Nat) (l : List St) : Prop := l.length ≤ k ∧ ∀ s ∈ l, s.2.length ≤ k
theorem FewL.nil (k : Nat) : FewL k [] := ⟨Nat.zero_le _, fun s h => by cases h⟩
theorem FewL.more {k : Nat} {l : List St} (h : FewL k l) : FewL (k + 1) l := ⟨by have := h.1; omega, fun s hs => by have := h.2 s hs; omega⟩
theorem FewL.state {k : Nat} {l : List St} (h : FewL k l) (f : Int) : FewL (k + 1) (l ++ [(f, [])]) := by
  refine ⟨by have := h.1; simp; omega, fun s hs => ?_⟩
  rcases List.mem_append.1 hs with hs | hs
  · have := h.2 s hs; omega
  · simp at hs; subst hs; simp
theorem FewL.arc {k : Nat} {l : List St} {s : St} (h : FewL k (l ++ [s])) (a : Ar) : FewL (k + 1) (l ++ [(s.1, s.2 ++ [a])]) := by
  refine ⟨by have := h.1; simp at this ⊢; omega, fun t ht => ?_⟩
  rcases List.mem_append.1 ht with ht | ht
  · have := h.2 t (by simp [ht]); omega
  · simp at ht; subst ht
    have := h.2 s (by simp)
    simp; omega
theorem FewL.ok {k : Nat} {z : Int} {l : List St} (h : FewL k l) (hk : k ≤ 20000) : okM (z, l) := by
  refine ⟨by have := h.1; simp only; omega, fun j hj => ?_⟩
  have := h.2 _ (el_mem hj)
  simp only at this ⊢
  omega
end Go.Proofs.YthaefajpdncoeaaDoor.Pl
namespace Go.Proofs.YthaefajpdncoeaaDoor.Wt
open Go.ChangeShapes Go.WideShapes Go.ChangeAt Go.RowKit
open Go.Proofs.YthaefajpdncoeaaDoor.Pl
set_option linter.unusedVariables false
set_option linter.unusedSimpArgs false
def RefRead (s : ByteArray) (w : World) (e : Ending) (w' : World) : Prop := ∃ (v : Value) (m : Mc) (ec : Int), e = .returned (.tuple #[v, .int .i64 ec]) ∧ Mach w' v m ∧ ReadAns s.data.toList m ec ∧ Below w.heap.size w w'
/-- What is read when an arc is put to a state. -/
def HeldV (M g q : Nat) (vs va : Value) (w : World) : Prop := w.cell? ⟨M, 1, none⟩ = some vs ∧ w.cell? ⟨g, q * 2 + 1, none⟩ = some va
theorem mach_zero (w : World) : Mach w (.agg #[.int .i64 0, .slice none 0 0]) (0, []) := ⟨_, rfl, (OwnSts.nil w 0).sts⟩
set_option maxRecDepth 100000 in
set_option maxHeartbeats 1600000 in
theorem readR_long (s : ByteArray) (w : World) (h : 20000 < s.size) :
    Calls Tryd.prog 12 #[.string s] w fun e w' => RefRead s w e w' := by
  have HA : Hid (ReadAns s.data.toList (0, []) 1) := ReadAns.long (by simpa using h)
  have h' : (20000 : Int) < (s.size : Int) := by omega
  go_enter Tryd.func12, Tryd.ntmps12
  go_wp2
  exact bodyPost_ret (v := .tuple #[.agg #[.int .i64 0, .slice none 0 0], .int .i64 1]) (by simp [results, Tryd.results12, go_sem]) rfl ⟨_, (0, []), 1, rfl, mach_zero _, HA.out, by go_grown⟩
theorem res_mach (tm : Array Value) (W : World) (R : Nat) (z ec : Int) (vs : Value) (hB : Blk W R #[.int .i64 z, vs] 24) (h2 : tm.getD 2 undef = .pointer (some ⟨R, 0, none⟩)) (h3 : tm.getD 3 undef = .int .i64 ec) : (results Tryd.f12 tm).run Tryd.prog W = .ok (.tuple #[.agg #[.int .i64 z, vs], .int .i64 ec]) W := by
  have c0 := hB.cell 0 (v := .int .i64 z) rfl
  have c1 := hB.cell 1 (v := vs) rfl
  simp only [Array.getD_eq_getD_getElem?] at h2 h3
  simp [results, Tryd.results12, go_sem, h2, h3, c0, c1]
theorem blk_two {W : World} {R : Nat} {a b x y : Value} {t : TypeId} (h : Blk W R #[a, b] t) : Blk ((W.setCell ⟨R, 0, none⟩ x).setCell ⟨R, 1, none⟩ y) R #[x, y] t := (h.set 0 x).set 1 y
theorem zero_post {s : ByteArray} {w W : World} {tm : Array Value} {x0 x1 : Value} (hB : Blk W w.heap.size #[x0, x1] 24) (hb : Below w.heap.size w W) (ha : ReadAns s.data.toList (0, []) 3) (h2 : tm.getD 2 undef = .pointer (some ⟨w.heap.size, 0, none⟩)) (h3 : tm.getD 3 undef = .int .i64 3) :
    bodyPost Tryd.prog Tryd.f12 (fun e w' => RefRead s w e w') .ret { tmps := tm, defers := [] } ((W.setCell ⟨w.heap.size, 0, none⟩ (.int .i64 0)).setCell ⟨w.heap.size, 1, none⟩ (.slice none 0 0)) :=
  bodyPost_ret (res_mach _ _ w.heap.size 0 3 _ (blk_two hB) h2 h3) rfl ⟨_, (0, []), 3, rfl, mach_zero _, ha, (hb.setCell (Nat.le_refl _) _).setCell (Nat.le_refl _) _⟩
set_option maxRecDepth 100000 in
set_option maxHeartbeats 25600000 in
theorem readR_short (s : ByteArray) (w : World) (h : ¬ 20000 < s.size) :
    Calls Tryd.prog 12 #[.string s] w fun e w' => RefRead s w e w' := by
  have hlen : s.data.toList.length = s.size := by simp
  have HS : Hid (¬ 20000 < s.data.toList.length) := by show ¬ _; rw [hlen]; exact h
  have h' : ¬ (20000 : Int) < (s.size : Int) := by omega
  have HL : Hid (∀ W : World, Calls Tryd.prog 25 #[.string s] W fun e w' => ∃ v, e = .returned (.tuple #[v, .bool (decide ((cutTo 10 s.data.toList s.size).2 = s.size))]) ∧ Strs w' v (linesT s.data.toList) ∧ Below W.heap.size W w') := fun W => by
    have h9 := linesR_any s W (by omega)
    unfold linesT
    rw [hlen]
    exact h9
  have hnot : ∀ (x : Bool) (w : World), (Op.unary .not (.bool x)).run Tryd.prog w = .ok (.bool (!x)) w := fun _ _ => rfl
  by_cases he : (cutTo 10 s.data.toList s.size).2 = s.size
  · rw [decide_eq_true he] at HL
    have HE : Hid ((cutTo 10 s.data.toList s.data.toList.length).2 = s.data.toList.length) := by show _ = _; rw [hlen]; exact he
    have hcnt := lines_count s.data.toList
    have HLS : Hid (∀ x ∈ linesT s.data.toList, x.length ≤ 20000) := fun x hx => by have h9 := line_size hx; omega
    have HBAD : Hid (∀ k, readF (((linesT s.data.toList).take k).map wordsL) = none → ReadAns s.data.toList (0, []) 3) := fun k hk => ReadAns.none HS.out (readM_line hk)
    rw [hlen] at hcnt
    clear hlen he
    by_cases hz : linesT s.data.toList = []
    · have HA : Hid (ReadAns s.data.toList (0, []) 3) := ReadAns.none HS.out (readM_empty hz)
      rw [hz] at HL
      go_enter Tryd.func12, Tryd.ntmps12
      go_wp2_with (first
        | (go_at_call 25; (with_reducible refine (HL.out _).mono ?_); rintro e w1 ⟨v1, rfl, hst, hb⟩; obtain ⟨av, cv, hv1⟩ := hst.sl; subst hv1; obtain ⟨s1, b1, hb1⟩ := boxed hb (by simp); have HB1 : Hid (Below w.heap.size w w1) := hb1; have K1 : Hid (Blk w1 w.heap.size #[.int .i64 0, .slice none 0 0] 24) := b1; have c0 := b1.cell 0 (v := .int .i64 0) rfl; have c1 := b1.cell 1 (v := .slice none 0 0) rfl; have f0 := b1.fz 0; have f1 := b1.fz 1; clear b1 hb1 hb hst))
      exact zero_post K1.out HB1.out HA.out rfl rfl
    · have hpos : 0 < (linesT s.data.toList).length := by
        cases e : linesT s.data.toList with
        | nil => exact absurd e hz
        | cons a b => simp
      have HALL : Hid (∀ m, readF (((linesT s.data.toList).take (linesT s.data.toList).length).map wordsL) = some m → readM s.data.toList = if faultM m = 0 then some m else none) := fun m hm => readM_all HE.out hz hm
      clear hz HE
      generalize linesT s.data.toList = xs at *
      generalize hn : xs.length = n at *
      have HN : Hid (xs.length = n) := hn
      have hn0 : ¬ (n : Int) = 0 := by omega
      have hnb : ((n : Int) == 0) = false := by simp; omega
      clear hn
      go_enter Tryd.func12, Tryd.ntmps12
      go_wp2_with (first
        | (go_at_call 25; (with_reducible refine (HL.out _).mono ?_); rintro e w1 ⟨v1, rfl, hst, hb⟩; obtain ⟨bl, ol, cv, hv1, hbl, hcl⟩ := hst.plain (by rw [HN.out]; exact hpos); rw [HN.out] at hv1 hcl; subst hv1; have HCL : Hid (∀ j, j < n → w1.cell? ⟨bl, ol + j, none⟩ = some (.string (textS (xs[j]?.getD [])))) := hcl; clear hcl; obtain ⟨s1, b1, hb1⟩ := boxed hb (by simp); have HB1 : Hid (Below w.heap.size w w1) := hb1; have K1 : Hid (Blk w1 w.heap.size #[.int .i64 0, .slice none 0 0] 24) := b1; clear b1 hb1 hb hst))
      have M0 : Hid (Blk (w1.alloc (.cells #[.int .i64 0, .slice none 0 0] 24)) w1.heap.size #[.int .i64 0, .slice none 0 0] 24) := Blk.made _ _ _
      go_loopw [7] (fun i wr => ∃ (k : Nat) (z : Int) (vs : Value) (l : List St), k ≤ n ∧ i = .int .i64 (k : Int) ∧ Hid (readF ((xs.take k).map wordsL) = some (z, l)) ∧ Hid (FewL k l) ∧ Hid (Blk wr w1.heap.size #[.int .i64 z, vs] 24) ∧ Hid (OwnApt wr (w1.heap.size + 1) vs l) ∧ Hid (Below w1.heap.size w1 wr) ∧ w1.heap.size + 1 ≤ wr.heap.size) (fun i _ => n - (intOf i).toNat)
      case atStart => exact ⟨0, 0, _, [], Nat.zero_le _, rfl, rfl, FewL.nil 0, M0, OwnApt.nil _ _, (Below.refl _ _).alloc (Nat.le_refl _) _, by simp⟩
      case round =>
        clear M0
        obtain ⟨k, z, vs, l, hk, rfl, hrd, hfew, hbx, hos, hb, hsz⟩ := hrel
        have HBW : Hid (Below w.heap.size w wr) := HB1.out.trans (hb.out.mono HB1.out.size)
        have KR : Hid (Blk wr w.heap.size #[.int .i64 0, .slice none 0 0] 24) := K1.out.below hb.out K1.out.lt
        by_cases hkn : k < n
        · have gl := (hb.out.cell (p := ⟨bl, ol + k, none⟩) hbl).trans (HCL.out k hkn)
          have hk0 : (0 : Int) ≤ (k : Int) := by omega
          have hk1 : (k : Int) < (n : Int) := by omega
          have HTK : Hid ((xs.take (k + 1)).map wordsL = (xs.take k).map wordsL ++ [wordsL (xs[k]?.getD [])]) := by
            show _ = _
            have h9 : k < xs.length := by rw [HN.out]; exact hkn
            rw [List.take_add_one, List.map_append, List.getElem?_eq_getElem h9]
            rfl
          have hXl : (xs[k]?.getD []).length ≤ 20000 := HLS.out _ (by
            have h9 : k < xs.length := by rw [HN.out]; exact hkn
            rw [List.getElem?_eq_getElem h9]; simp)
          generalize xs[k]?.getD [] = X at *
          have HPC : Hid (∀ W : World, Calls Tryd.prog 26 #[.string (textS X)] W fun e w' => ∃ v, e = .returned v ∧ Strs w' v (wordsL X) ∧ Below W.heap.size W w') := fun W => parts_any (textS X) W hXl
          have hP1 : 0 < (wordsL X).length := by unfold wordsL; simp
          have HPL : Hid (∀ y ∈ wordsL X, y.length ≤ 20000) := fun y hy => Nat.le_trans (word_size hy) hXl
          generalize wordsL X = P at *
          generalize textS X = TX at *
          have hP1c : 0 < P.length := hP1
          by_cases hkz : k = 0
          · have hkz' : (k : Int) = 0 := by omega
            have HR1 : Hid (readF ((xs.take (k + 1)).map wordsL) = (headR P).map fun z => (z, [])) := by show _ = _; rw [HTK.out, hkz]; exact readF_one P
            have gl0 : wr.cell? ⟨bl, ol, none⟩ = some (.string TX) := by rw [hkz] at gl; exact gl
            have HL0 : Hid (l = []) := by have h9 := hrd.out; rw [hkz] at h9; simp [readF] at h9; exact h9.2
            clear hkz hrd gl
            by_cases c2 : P.length = 2
            · obtain ⟨a, b, rfl⟩ := two_words c2
              clear c2
              obtain ⟨TA, hTA⟩ : ∃ T, textS (a) = T := ⟨_, rfl⟩
              have HTA : Hid (textS (a) = TA) := hTA
              clear hTA
              obtain ⟨TB, hTB⟩ : ∃ T, textS (b) = T := ⟨_, rfl⟩
              have HTB : Hid (textS (b) = TB) := hTB
              clear hTB
              by_cases sac : a = wStart
              · skip
                have sa : (TA.toList == [115, 116, 97, 114, 116]) = true := by rw [← HTA.out, text_list]; simpa [wStart, wState, wArc] using sac
                have san : (TA.toList != [115, 116, 97, 114, 116]) = false := by show (!(TA.toList == [115, 116, 97, 114, 116])) = false; rw [sa]; rfl
                by_cases sbc : b = [45]
                · skip
                  have sb : (TB.toList == [45]) = true := by rw [← HTB.out, text_list]; simpa [wStart, wState, wArc] using sbc
                  have sbn : (TB.toList != [45]) = false := by show (!(TB.toList == [45])) = false; rw [sb]; rfl
                  have HRD : Hid (readF ((xs.take (k + 1)).map wordsL) = some (-1, [])) := by show _ = _; rw [HR1.out, headR, if_pos ⟨rfl, sac⟩, if_pos (show wd [a, b] 1 = [45] from sbc)]; rfl
                  clear sac sbc
                  go_wp2_with (first
                    | (go_at_call 26; (with_reducible refine (HPC.out _).mono ?_); rintro e w2 ⟨v2, rfl, hst2, hb2⟩; obtain ⟨bp, op, cp, hvp, hbp, hcp⟩ := hst2.plain hP1; subst hvp; have p0 : w2.cell? ⟨bp, op, none⟩ = some (.string TA) := (by rw [← HTA.out]; exact hcp 0 (by simp)); have p1 : w2.cell? ⟨bp, op + 1, none⟩ = some (.string TB) := (by rw [← HTB.out]; exact hcp 1 (by simp)); have HB2 : Hid (Below w.heap.size w w2) := HBW.out.trans (hb2.mono HBW.out.size); have KR2 : Hid (Blk w2 w.heap.size #[.int .i64 0, .slice none 0 0] 24) := KR.out.below hb2 KR.out.lt; have KM2 : Hid (Blk w2 w1.heap.size #[.int .i64 z, vs] 24) := hbx.out.below hb2 hbx.out.lt; have OA2 : Hid (OwnApt w2 (w1.heap.size + 1) vs l) := hos.out.later hb2; have BW2 : Hid (Below w1.heap.size w1 w2) := hb.out.trans (hb2.mono hb.out.size); have SZ2 : w1.heap.size + 1 ≤ w2.heap.size := Nat.le_trans hsz hb2.size; have r0 := KR2.out.cell 0 (v := .int .i64 0) rfl; have r1 := KR2.out.cell 1 (v := .slice none 0 0) rfl; have q0 := KR2.out.fz 0; have q1 := KR2.out.fz 1; have m0 := KM2.out.cell 0 (v := .int .i64 z) rfl; have m1 := KM2.out.cell 1 (v := vs) rfl; have n0 := KM2.out.fz 0; have n1 := KM2.out.fz 1; clear hst2 hb2 hcp))
                  have KM3 : Hid (Blk (w2.setCell ⟨w1.heap.size, 0, none⟩ (.int .i64 (-1))) w1.heap.size #[.int .i64 (-1), vs] 24) := KM2.out.set 0 _
                  have OA3 : Hid (OwnApt (w2.setCell ⟨w1.heap.size, 0, none⟩ (.int .i64 (-1))) (w1.heap.size + 1) vs []) := by have h9 := OA2.out.setCell (a := ⟨w1.heap.size, 0, none⟩) (by show w1.heap.size < _; omega) (.int .i64 (-1)); rw [HL0.out] at h9; exact h9
                  have BW3 : Hid (Below w1.heap.size w1 (w2.setCell ⟨w1.heap.size, 0, none⟩ (.int .i64 (-1)))) := BW2.out.setCell (Nat.le_refl _) _
                  go_roundw
                  case rel => exact ⟨k + 1, -1, vs, [], by omega, by go_num, HRD, FewL.nil _, KM3, OA3, BW3, by simp [World.setCell]; exact SZ2⟩
                  case measure => simp [intOf]; omega
                · skip
                  have sb : (TB.toList == [45]) = false := by rw [← HTB.out, text_list]; simpa [wStart, wState, wArc] using sbc
                  have sbn : (TB.toList != [45]) = true := by show (!(TB.toList == [45])) = true; rw [sb]; rfl
                  have HNB : Hid (∀ W : World, Calls Tryd.prog 27 #[.string TB, .int .i64 60] W fun e w' => e = .returned (.int .i64 (numI b 60)) ∧ W = w') := fun W => by
                    have h9 := number_any (textS b) 60 W (by rw [text_size]; have := HPL.out b (by simp); unfold maxLen; omega) (by omega) (by omega) _ rfl
                    rw [HTB.out] at h9
                    exact h9.mono fun e w' h8 => ⟨by rw [h8.1, ← HTB.out]; rfl, h8.2⟩
                  have hRM : w.heap.size ≠ w1.heap.size := by omega
                  obtain ⟨N, hN⟩ : ∃ N, numI b 60 = N := ⟨_, rfl⟩
                  have HNE : Hid (numI b 60 = N) := hN
                  rw [hN] at HNB
                  clear hN
                  by_cases cn : N < 0
                  · skip
                    have HA : Hid (ReadAns s.data.toList (0, []) 3) := HBAD.out (k + 1) (by rw [HR1.out, headR, if_pos ⟨rfl, sac⟩, if_neg (show ¬ wd [a, b] 1 = [45] from sbc), if_pos (show numI (wd [a, b] 1) 60 < 0 by rw [show wd [a, b] 1 = b from rfl, HNE.out]; exact cn)]; rfl)
                    go_wp2_with (first
                      | (go_at_call 26; (with_reducible refine (HPC.out _).mono ?_); rintro e w2 ⟨v2, rfl, hst2, hb2⟩; obtain ⟨bp, op, cp, hvp, hbp, hcp⟩ := hst2.plain hP1; subst hvp; have p0 : w2.cell? ⟨bp, op, none⟩ = some (.string TA) := (by rw [← HTA.out]; exact hcp 0 (by simp)); have p1 : w2.cell? ⟨bp, op + 1, none⟩ = some (.string TB) := (by rw [← HTB.out]; exact hcp 1 (by simp)); have HB2 : Hid (Below w.heap.size w w2) := HBW.out.trans (hb2.mono HBW.out.size); have KR2 : Hid (Blk w2 w.heap.size #[.int .i64 0, .slice none 0 0] 24) := KR.out.below hb2 KR.out.lt; have KM2 : Hid (Blk w2 w1.heap.size #[.int .i64 z, vs] 24) := hbx.out.below hb2 hbx.out.lt; have OA2 : Hid (OwnApt w2 (w1.heap.size + 1) vs l) := hos.out.later hb2; have BW2 : Hid (Below w1.heap.size w1 w2) := hb.out.trans (hb2.mono hb.out.size); have SZ2 : w1.heap.size + 1 ≤ w2.heap.size := Nat.le_trans hsz hb2.size; have r0 := KR2.out.cell 0 (v := .int .i64 0) rfl; have r1 := KR2.out.cell 1 (v := .slice none 0 0) rfl; have q0 := KR2.out.fz 0; have q1 := KR2.out.fz 1; have m0 := KM2.out.cell 0 (v := .int .i64 z) rfl; have m1 := KM2.out.cell 1 (v := vs) rfl; have n0 := KM2.out.fz 0; have n1 := KM2.out.fz 1; have KM3 : Hid (Blk (w2.setCell ⟨w1.heap.size, 0, none⟩ (.int .i64 (-1))) w1.heap.size #[.int .i64 (-1), vs] 24) := KM2.out.set 0 _; have d0 := KM3.out.cell 0 (v := .int .i64 (-1)) rfl; have d1 := KM3.out.fz 0; have KM4 : Hid (Blk ((w2.setCell ⟨w1.heap.size, 0, none⟩ (.int .i64 (-1))).setCell ⟨w1.heap.size, 0, none⟩ (.int .i64 N)) w1.heap.size #[.int .i64 N, vs] 24) := KM3.out.set 0 _; have d2 := KM4.out.cell 0 (v := .int .i64 N) rfl; have KR4 : Hid (Blk ((w2.setCell ⟨w1.heap.size, 0, none⟩ (.int .i64 (-1))).setCell ⟨w1.heap.size, 0, none⟩ (.int .i64 N)) w.heap.size #[.int .i64 0, .slice none 0 0] 24) := (KR2.out.setO _ _ hRM).setO _ _ hRM; have r2 := KR4.out.cell 0 (v := .int .i64 0) rfl; have r3 := KR4.out.cell 1 (v := .slice none 0 0) rfl; have q2 := KR4.out.fz 0; have q3 := KR4.out.fz 1; clear hst2 hb2 hcp)
                      | (go_at_call 27; (with_reducible refine (HNB.out _).mono ?_); rintro e w5 ⟨rfl, rfl⟩))
                    exact zero_post KR4.out ((HB2.out.setCell (by show w.heap.size ≤ w1.heap.size; omega) _).setCell (by show w.heap.size ≤ w1.heap.size; omega) _) HA.out rfl rfl
                  · skip
                    have HRD : Hid (readF ((xs.take (k + 1)).map wordsL) = some (N, [])) := by show _ = _; rw [HR1.out, headR, if_pos ⟨rfl, sac⟩, if_neg (show ¬ wd [a, b] 1 = [45] from sbc), show wd [a, b] 1 = b from rfl, HNE.out, if_neg cn]; rfl
                    clear sac sbc
                    go_wp2_with (first
                      | (go_at_call 26; (with_reducible refine (HPC.out _).mono ?_); rintro e w2 ⟨v2, rfl, hst2, hb2⟩; obtain ⟨bp, op, cp, hvp, hbp, hcp⟩ := hst2.plain hP1; subst hvp; have p0 : w2.cell? ⟨bp, op, none⟩ = some (.string TA) := (by rw [← HTA.out]; exact hcp 0 (by simp)); have p1 : w2.cell? ⟨bp, op + 1, none⟩ = some (.string TB) := (by rw [← HTB.out]; exact hcp 1 (by simp)); have HB2 : Hid (Below w.heap.size w w2) := HBW.out.trans (hb2.mono HBW.out.size); have KR2 : Hid (Blk w2 w.heap.size #[.int .i64 0, .slice none 0 0] 24) := KR.out.below hb2 KR.out.lt; have KM2 : Hid (Blk w2 w1.heap.size #[.int .i64 z, vs] 24) := hbx.out.below hb2 hbx.out.lt; have OA2 : Hid (OwnApt w2 (w1.heap.size + 1) vs l) := hos.out.later hb2; have BW2 : Hid (Below w1.heap.size w1 w2) := hb.out.trans (hb2.mono hb.out.size); have SZ2 : w1.heap.size + 1 ≤ w2.heap.size := Nat.le_trans hsz hb2.size; have r0 := KR2.out.cell 0 (v := .int .i64 0) rfl; have r1 := KR2.out.cell 1 (v := .slice none 0 0) rfl; have q0 := KR2.out.fz 0; have q1 := KR2.out.fz 1; have m0 := KM2.out.cell 0 (v := .int .i64 z) rfl; have m1 := KM2.out.cell 1 (v := vs) rfl; have n0 := KM2.out.fz 0; have n1 := KM2.out.fz 1; have KM3 : Hid (Blk (w2.setCell ⟨w1.heap.size, 0, none⟩ (.int .i64 (-1))) w1.heap.size #[.int .i64 (-1), vs] 24) := KM2.out.set 0 _; have d0 := KM3.out.cell 0 (v := .int .i64 (-1)) rfl; have d1 := KM3.out.fz 0; have KM4 : Hid (Blk ((w2.setCell ⟨w1.heap.size, 0, none⟩ (.int .i64 (-1))).setCell ⟨w1.heap.size, 0, none⟩ (.int .i64 N)) w1.heap.size #[.int .i64 N, vs] 24) := KM3.out.set 0 _; have d2 := KM4.out.cell 0 (v := .int .i64 N) rfl; have KR4 : Hid (Blk ((w2.setCell ⟨w1.heap.size, 0, none⟩ (.int .i64 (-1))).setCell ⟨w1.heap.size, 0, none⟩ (.int .i64 N)) w.heap.size #[.int .i64 0, .slice none 0 0] 24) := (KR2.out.setO _ _ hRM).setO _ _ hRM; have r2 := KR4.out.cell 0 (v := .int .i64 0) rfl; have r3 := KR4.out.cell 1 (v := .slice none 0 0) rfl; have q2 := KR4.out.fz 0; have q3 := KR4.out.fz 1; clear hst2 hb2 hcp)
                      | (go_at_call 27; (with_reducible refine (HNB.out _).mono ?_); rintro e w5 ⟨rfl, rfl⟩))
                    have OA3 : Hid (OwnApt ((w2.setCell ⟨w1.heap.size, 0, none⟩ (.int .i64 (-1))).setCell ⟨w1.heap.size, 0, none⟩ (.int .i64 N)) (w1.heap.size + 1) vs []) := by have h9 := (OA2.out.setCell (a := ⟨w1.heap.size, 0, none⟩) (by show w1.heap.size < _; omega) (.int .i64 (-1))).setCell (a := ⟨w1.heap.size, 0, none⟩) (by show w1.heap.size < _; omega) (.int .i64 N); rw [HL0.out] at h9; exact h9
                    have BW3 : Hid (Below w1.heap.size w1 ((w2.setCell ⟨w1.heap.size, 0, none⟩ (.int .i64 (-1))).setCell ⟨w1.heap.size, 0, none⟩ (.int .i64 N))) := (BW2.out.setCell (Nat.le_refl _) _).setCell (Nat.le_refl _) _
                    go_roundw
                    case rel => exact ⟨k + 1, N, vs, [], by omega, by go_num, HRD, FewL.nil _, KM4, OA3, BW3, by simp [World.setCell]; exact SZ2⟩
                    case measure => simp [intOf]; omega
              · skip
                have sa : (TA.toList == [115, 116, 97, 114, 116]) = false := by rw [← HTA.out, text_list]; simpa [wStart, wState, wArc] using sac
                have san : (TA.toList != [115, 116, 97, 114, 116]) = true := by show (!(TA.toList == [115, 116, 97, 114, 116])) = true; rw [sa]; rfl
                have HA : Hid (ReadAns s.data.toList (0, []) 3) := HBAD.out (k + 1) (by rw [HR1.out, headR, if_neg (fun h9 => sac h9.2)]; rfl)
                go_wp2_with (first
                  | (go_at_call 26; (with_reducible refine (HPC.out _).mono ?_); rintro e w2 ⟨v2, rfl, hst2, hb2⟩; obtain ⟨bp, op, cp, hvp, hbp, hcp⟩ := hst2.plain hP1; subst hvp; have p0 : w2.cell? ⟨bp, op, none⟩ = some (.string TA) := (by rw [← HTA.out]; exact hcp 0 (by simp)); have p1 : w2.cell? ⟨bp, op + 1, none⟩ = some (.string TB) := (by rw [← HTB.out]; exact hcp 1 (by simp)); have HB2 : Hid (Below w.heap.size w w2) := HBW.out.trans (hb2.mono HBW.out.size); have KR2 : Hid (Blk w2 w.heap.size #[.int .i64 0, .slice none 0 0] 24) := KR.out.below hb2 KR.out.lt; have KM2 : Hid (Blk w2 w1.heap.size #[.int .i64 z, vs] 24) := hbx.out.below hb2 hbx.out.lt; have OA2 : Hid (OwnApt w2 (w1.heap.size + 1) vs l) := hos.out.later hb2; have BW2 : Hid (Below w1.heap.size w1 w2) := hb.out.trans (hb2.mono hb.out.size); have SZ2 : w1.heap.size + 1 ≤ w2.heap.size := Nat.le_trans hsz hb2.size; have r0 := KR2.out.cell 0 (v := .int .i64 0) rfl; have r1 := KR2.out.cell 1 (v := .slice none 0 0) rfl; have q0 := KR2.out.fz 0; have q1 := KR2.out.fz 1; have m0 := KM2.out.cell 0 (v := .int .i64 z) rfl; have m1 := KM2.out.cell 1 (v := vs) rfl; have n0 := KM2.out.fz 0; have n1 := KM2.out.fz 1; clear hst2 hb2 hcp))
                exact zero_post KR2.out HB2.out HA.out rfl rfl
            · have c2b : ((P.length : Int) != 2) = true := by simp; omega
              have c2n : ¬ (P.length : Int) = 2 := by omega
              have HA : Hid (ReadAns s.data.toList (0, []) 3) := HBAD.out (k + 1) (by rw [HR1.out, headR, if_neg (fun h9 => c2 h9.1)]; rfl)
              go_wp2_with (first
                | (go_at_call 26; (with_reducible refine (HPC.out _).mono ?_); rintro e w2 ⟨v2, rfl, hst2, hb2⟩; obtain ⟨bp, op, cp, hvp, hbp, hcp⟩ := hst2.plain hP1; subst hvp; have HB2 : Hid (Below w.heap.size w w2) := HBW.out.trans (hb2.mono HBW.out.size); have KR2 : Hid (Blk w2 w.heap.size #[.int .i64 0, .slice none 0 0] 24) := KR.out.below hb2 KR.out.lt; have KM2 : Hid (Blk w2 w1.heap.size #[.int .i64 z, vs] 24) := hbx.out.below hb2 hbx.out.lt; have OA2 : Hid (OwnApt w2 (w1.heap.size + 1) vs l) := hos.out.later hb2; have BW2 : Hid (Below w1.heap.size w1 w2) := hb.out.trans (hb2.mono hb.out.size); have SZ2 : w1.heap.size + 1 ≤ w2.heap.size := Nat.le_trans hsz hb2.size; have r0 := KR2.out.cell 0 (v := .int .i64 0) rfl; have r1 := KR2.out.cell 1 (v := .slice none 0 0) rfl; have q0 := KR2.out.fz 0; have q1 := KR2.out.fz 1; have m0 := KM2.out.cell 0 (v := .int .i64 z) rfl; have m1 := KM2.out.cell 1 (v := vs) rfl; have n0 := KM2.out.fz 0; have n1 := KM2.out.fz 1; clear hst2 hb2 hcp))
              exact zero_post KR2.out HB2.out HA.out rfl rfl
          · have hkz' : ¬ (k : Int) = 0 := by omega
            have hkb : ((k : Int) == 0) = false := by simp; omega
            have HR2 : Hid (readF ((xs.take (k + 1)).map wordsL) = (lineR l P).map fun l => (z, l)) := by
              show _ = _
              have hne : (xs.take k).map wordsL ≠ [] := by
                intro e9
                have := congrArg List.length e9
                rw [List.length_map, List.length_take, HN.out] at this
                simp at this; omega
              rw [HTK.out, readF_snoc hne, hrd.out]; rfl
            clear hkz hrd
            obtain ⟨T0, hT0⟩ : ∃ T, textS (wd P 0) = T := ⟨_, rfl⟩
            have HT0 : Hid (textS (wd P 0) = T0) := hT0
            clear hT0
            by_cases c0c : wd P 0 = wState
            · skip
              have c0 : (T0.toList == [115, 116, 97, 116, 101]) = true := by rw [← HT0.out, text_list]; simpa [wStart, wState, wArc] using c0c
              have c0n : (T0.toList != [115, 116, 97, 116, 101]) = false := by show (!(T0.toList == [115, 116, 97, 116, 101])) = false; rw [c0]; rfl
              by_cases c2 : P.length = 2
              · obtain ⟨a, b, rfl⟩ := two_words c2
                obtain ⟨TB, hTB⟩ : ∃ T, textS (b) = T := ⟨_, rfl⟩
                have HTB : Hid (textS (b) = TB) := hTB
                clear hTB
                have HWR : Hid (∀ W : World, Calls Tryd.prog 28 #[.string TB] W fun e w' => e = .returned (.tuple #[.int .i64 (readR TB).1, .int .i64 (readR TB).2]) ∧ W = w') := fun W => by
                  have h9 := weightRead_any TB W (by rw [← HTB.out, text_size]; have := HPL.out b (by simp); unfold maxLen; omega)
                  exact h9.mono fun e w' h8 => ⟨h8.1, h8.2⟩
                have HRB : Hid (readR (textS (wd [a, b] 1)) = readR TB) := by show readR (textS b) = _; rw [HTB.out]
                obtain ⟨F, EC, hfe⟩ : ∃ F EC, readR TB = (F, EC) := ⟨_, _, rfl⟩
                rw [hfe] at HWR HRB
                simp only at HWR
                clear hfe
                by_cases ce : EC = 0
                · subst ce
                  have HRD : Hid (readF ((xs.take (k + 1)).map wordsL) = some (z, l ++ [(F, [])])) := by show _ = _; rw [HR2.out, lineR, if_pos ⟨c0c, c2⟩, HRB.out, if_pos rfl]; rfl
                  have hfl := hfew.out.1
                  clear c0c c2
                  go_wp2_with (first
                    | (go_at_call 26; (with_reducible refine (HPC.out _).mono ?_); rintro e w2 ⟨v2, rfl, hst2, hb2⟩; obtain ⟨bp, op, cp, hvp, hbp, hcp⟩ := hst2.plain hP1; subst hvp; have p0 : w2.cell? ⟨bp, op, none⟩ = some (.string T0) := (by rw [← HT0.out]; exact hcp 0 (by simp)); have p1 : w2.cell? ⟨bp, op + 1, none⟩ = some (.string TB) := (by rw [← HTB.out]; exact hcp 1 (by simp)); have HB2 : Hid (Below w.heap.size w w2) := HBW.out.trans (hb2.mono HBW.out.size); have KR2 : Hid (Blk w2 w.heap.size #[.int .i64 0, .slice none 0 0] 24) := KR.out.below hb2 KR.out.lt; have KM2 : Hid (Blk w2 w1.heap.size #[.int .i64 z, vs] 24) := hbx.out.below hb2 hbx.out.lt; have OA2 : Hid (OwnApt w2 (w1.heap.size + 1) vs l) := hos.out.later hb2; have BW2 : Hid (Below w1.heap.size w1 w2) := hb.out.trans (hb2.mono hb.out.size); have SZ2 : w1.heap.size + 1 ≤ w2.heap.size := Nat.le_trans hsz hb2.size; have r0 := KR2.out.cell 0 (v := .int .i64 0) rfl; have r1 := KR2.out.cell 1 (v := .slice none 0 0) rfl; have q0 := KR2.out.fz 0; have q1 := KR2.out.fz 1; have m0 := KM2.out.cell 0 (v := .int .i64 z) rfl; have m1 := KM2.out.cell 1 (v := vs) rfl; have n0 := KM2.out.fz 0; have n1 := KM2.out.fz 1; obtain ⟨a3, c3, w3, r3, o3, b3⟩ := OA2.out.push F (by omega) SZ2; have R3 : Hid ((Builtin.append_ #[22, 22] 22 #[vs, .slice (some ⟨w2.heap.size, 0, none⟩) 1 1]).run Tryd.prog (w2.alloc (.cells #[.int .i64 F, .slice none 0 0] 37)) = .ok (.slice a3 (l.length + 1) c3) w3) := r3; have O3 : Hid (OwnApt w3 (w1.heap.size + 1) (.slice a3 (l.length + 1) c3) (l ++ [(F, [])])) := o3; have B3 : Hid (Below (w1.heap.size + 1) w2 w3) := b3; have KM3 : Hid (Blk w3 w1.heap.size #[.int .i64 z, vs] 24) := KM2.out.below b3 (Nat.lt_succ_self _); have d1 := KM3.out.cell 1 (v := vs) rfl; have d2 := KM3.out.fz 1; clear r3 o3 b3; clear hst2 hb2 hcp)
                    | (go_at_call 28; (with_reducible refine (HWR.out _).mono ?_); rintro e w5 ⟨rfl, rfl⟩)
                    | (at_builtin; refine wpListAppendRun rfl _ _ 22 rfl rfl rfl R3.out ?_))
                  have KM4 : Hid (Blk (w3.setCell ⟨w1.heap.size, 1, none⟩ (.slice a3 (l.length + 1) c3)) w1.heap.size #[.int .i64 z, .slice a3 (l.length + 1) c3] 24) := KM3.out.set 1 _
                  have OA4 : Hid (OwnApt (w3.setCell ⟨w1.heap.size, 1, none⟩ (.slice a3 (l.length + 1) c3)) (w1.heap.size + 1) (.slice a3 (l.length + 1) c3) (l ++ [(F, [])])) := O3.out.setCell (by show w1.heap.size < _; omega) _
                  have BW4 : Hid (Below w1.heap.size w1 (w3.setCell ⟨w1.heap.size, 1, none⟩ (.slice a3 (l.length + 1) c3))) := (BW2.out.trans (B3.out.mono (by omega))).setCell (Nat.le_refl _) _
                  have SZ4 : w1.heap.size + 1 ≤ w3.heap.size := Nat.le_trans SZ2 B3.out.size
                  go_roundw
                  case rel => exact ⟨k + 1, z, _, l ++ [(F, [])], by omega, by go_num, HRD, hfew.out.state F, KM4, OA4, BW4, by simp [World.setCell]; exact SZ4⟩
                  case measure => simp [intOf]; omega
                · have ceb : (EC != 0) = true := by simp [ce]
                  have HA : Hid (ReadAns s.data.toList (0, []) 3) := HBAD.out (k + 1) (by rw [HR2.out, lineR, if_pos ⟨c0c, c2⟩, HRB.out, if_neg ce]; rfl)
                  go_wp2_with (first
                    | (go_at_call 26; (with_reducible refine (HPC.out _).mono ?_); rintro e w2 ⟨v2, rfl, hst2, hb2⟩; obtain ⟨bp, op, cp, hvp, hbp, hcp⟩ := hst2.plain hP1; subst hvp; have p0 : w2.cell? ⟨bp, op, none⟩ = some (.string T0) := (by rw [← HT0.out]; exact hcp 0 (by simp)); have p1 : w2.cell? ⟨bp, op + 1, none⟩ = some (.string TB) := (by rw [← HTB.out]; exact hcp 1 (by simp)); have HB2 : Hid (Below w.heap.size w w2) := HBW.out.trans (hb2.mono HBW.out.size); have KR2 : Hid (Blk w2 w.heap.size #[.int .i64 0, .slice none 0 0] 24) := KR.out.below hb2 KR.out.lt; have KM2 : Hid (Blk w2 w1.heap.size #[.int .i64 z, vs] 24) := hbx.out.below hb2 hbx.out.lt; have OA2 : Hid (OwnApt w2 (w1.heap.size + 1) vs l) := hos.out.later hb2; have BW2 : Hid (Below w1.heap.size w1 w2) := hb.out.trans (hb2.mono hb.out.size); have SZ2 : w1.heap.size + 1 ≤ w2.heap.size := Nat.le_trans hsz hb2.size; have r0 := KR2.out.cell 0 (v := .int .i64 0) rfl; have r1 := KR2.out.cell 1 (v := .slice none 0 0) rfl; have q0 := KR2.out.fz 0; have q1 := KR2.out.fz 1; have m0 := KM2.out.cell 0 (v := .int .i64 z) rfl; have m1 := KM2.out.cell 1 (v := vs) rfl; have n0 := KM2.out.fz 0; have n1 := KM2.out.fz 1; clear hst2 hb2 hcp)
                    | (go_at_call 28; (with_reducible refine (HWR.out _).mono ?_); rintro e w5 ⟨rfl, rfl⟩))
                  exact zero_post KR2.out HB2.out HA.out rfl rfl
              · have c2n : ¬ (P.length : Int) = 2 := by omega
                have c2b : ((P.length : Int) == 2) = false := by simp; omega
                have c1c : ¬ wd P 0 = wArc := by rw [c0c]; decide
                have c1 : (T0.toList == [97, 114, 99]) = false := by rw [← HT0.out, text_list]; simpa [wStart, wState, wArc] using c1c
                have c1n : (T0.toList != [97, 114, 99]) = true := by show (!(T0.toList == [97, 114, 99])) = true; rw [c1]; rfl
                have HA : Hid (ReadAns s.data.toList (0, []) 3) := HBAD.out (k + 1) (by rw [HR2.out, lineR, if_neg (fun h9 => c2 h9.2), if_neg (fun h9 => c1c h9.1)]; rfl)
                go_wp2_with (first
                  | (go_at_call 26; (with_reducible refine (HPC.out _).mono ?_); rintro e w2 ⟨v2, rfl, hst2, hb2⟩; obtain ⟨bp, op, cp, hvp, hbp, hcp⟩ := hst2.plain hP1; subst hvp; have p0 : w2.cell? ⟨bp, op, none⟩ = some (.string T0) := (by rw [← HT0.out]; exact hcp 0 hP1); have HB2 : Hid (Below w.heap.size w w2) := HBW.out.trans (hb2.mono HBW.out.size); have KR2 : Hid (Blk w2 w.heap.size #[.int .i64 0, .slice none 0 0] 24) := KR.out.below hb2 KR.out.lt; have KM2 : Hid (Blk w2 w1.heap.size #[.int .i64 z, vs] 24) := hbx.out.below hb2 hbx.out.lt; have OA2 : Hid (OwnApt w2 (w1.heap.size + 1) vs l) := hos.out.later hb2; have BW2 : Hid (Below w1.heap.size w1 w2) := hb.out.trans (hb2.mono hb.out.size); have SZ2 : w1.heap.size + 1 ≤ w2.heap.size := Nat.le_trans hsz hb2.size; have r0 := KR2.out.cell 0 (v := .int .i64 0) rfl; have r1 := KR2.out.cell 1 (v := .slice none 0 0) rfl; have q0 := KR2.out.fz 0; have q1 := KR2.out.fz 1; have m0 := KM2.out.cell 0 (v := .int .i64 z) rfl; have m1 := KM2.out.cell 1 (v := vs) rfl; have n0 := KM2.out.fz 0; have n1 := KM2.out.fz 1; clear hst2 hb2 hcp))
                exact zero_post KR2.out HB2.out HA.out rfl rfl
            · skip
              have c0 : (T0.toList == [115, 116, 97, 116, 101]) = false := by rw [← HT0.out, text_list]; simpa [wStart, wState, wArc] using c0c
              have c0n : (T0.toList != [115, 116, 97, 116, 101]) = true := by show (!(T0.toList == [115, 116, 97, 116, 101])) = true; rw [c0]; rfl
              by_cases c1c : wd P 0 = wArc
              · skip
                have c1 : (T0.toList == [97, 114, 99]) = true := by rw [← HT0.out, text_list]; simpa [wStart, wState, wArc] using c1c
                have c1n : (T0.toList != [97, 114, 99]) = false := by show (!(T0.toList == [97, 114, 99])) = false; rw [c1]; rfl
                by_cases c5 : P.length = 5
                · obtain ⟨a, b, c, d, e', rfl⟩ := five_words c5
                  by_cases hle : l = []
                  · subst hle
                    obtain ⟨av, cvs, hvs⟩ := hos.out.sl
                    subst hvs
                    have HA : Hid (ReadAns s.data.toList (0, []) 3) := HBAD.out (k + 1) (by rw [HR2.out, lineR, if_neg (fun h9 => c0c h9.1), if_neg (fun h9 => h9.2.2 rfl)]; rfl)
                    go_wp2_with (first
                      | (go_at_call 26; (with_reducible refine (HPC.out _).mono ?_); rintro e w2 ⟨v2, rfl, hst2, hb2⟩; obtain ⟨bp, op, cp, hvp, hbp, hcp⟩ := hst2.plain hP1; subst hvp; have p0 : w2.cell? ⟨bp, op, none⟩ = some (.string T0) := (by rw [← HT0.out]; exact hcp 0 (by simp)); have HB2 : Hid (Below w.heap.size w w2) := HBW.out.trans (hb2.mono HBW.out.size); have KR2 : Hid (Blk w2 w.heap.size #[.int .i64 0, .slice none 0 0] 24) := KR.out.below hb2 KR.out.lt; have KM2 : Hid (Blk w2 w1.heap.size #[.int .i64 z, .slice av ([] : List St).length cvs] 24) := hbx.out.below hb2 hbx.out.lt; have OA2 : Hid (OwnApt w2 (w1.heap.size + 1) (.slice av ([] : List St).length cvs) []) := hos.out.later hb2; have BW2 : Hid (Below w1.heap.size w1 w2) := hb.out.trans (hb2.mono hb.out.size); have SZ2 : w1.heap.size + 1 ≤ w2.heap.size := Nat.le_trans hsz hb2.size; have r0 := KR2.out.cell 0 (v := .int .i64 0) rfl; have r1 := KR2.out.cell 1 (v := .slice none 0 0) rfl; have q0 := KR2.out.fz 0; have q1 := KR2.out.fz 1; have m0 := KM2.out.cell 0 (v := .int .i64 z) rfl; have m1 := KM2.out.cell 1 (v := .slice av ([] : List St).length cvs) rfl; have n0 := KM2.out.fz 0; have n1 := KM2.out.fz 1; clear hst2 hb2 hcp))
                    exact zero_post KR2.out HB2.out HA.out rfl rfl
                  · obtain ⟨t, sl, rfl⟩ := snoc_of hle
                    obtain ⟨TB, hTB⟩ : ∃ T, textS (b) = T := ⟨_, rfl⟩
                    have HTB : Hid (textS (b) = TB) := hTB
                    clear hTB
                    obtain ⟨TC, hTC⟩ : ∃ T, textS (c) = T := ⟨_, rfl⟩
                    have HTC : Hid (textS (c) = TC) := hTC
                    clear hTC
                    obtain ⟨TD, hTD⟩ : ∃ T, textS (d) = T := ⟨_, rfl⟩
                    have HTD : Hid (textS (d) = TD) := hTD
                    clear hTD
                    obtain ⟨TE, hTE⟩ : ∃ T, textS (e') = T := ⟨_, rfl⟩
                    have HTE : Hid (textS (e') = TE) := hTE
                    clear hTE
                    have H1 : Hid (∀ W : World, Calls Tryd.prog 27 #[.string TB, .int .i64 60] W fun e w' => e = .returned (.int .i64 (numI b 60)) ∧ W = w') := fun W => by
                      have h9 := number_any (textS b) 60 W (by rw [text_size]; have := HPL.out b (by simp); unfold maxLen; omega) (by omega) (by omega) _ rfl
                      rw [HTB.out] at h9
                      exact h9.mono fun e w' h8 => ⟨by rw [h8.1, ← HTB.out]; rfl, h8.2⟩
                    have H2 : Hid (∀ W : World, Calls Tryd.prog 27 #[.string TC, .int .i64 1000] W fun e w' => e = .returned (.int .i64 (numI c 1000)) ∧ W = w') := fun W => by
                      have h9 := number_any (textS c) 1000 W (by rw [text_size]; have := HPL.out c (by simp); unfold maxLen; omega) (by omega) (by omega) _ rfl
                      rw [HTC.out] at h9
                      exact h9.mono fun e w' h8 => ⟨by rw [h8.1, ← HTC.out]; rfl, h8.2⟩
                    have H3 : Hid (∀ W : World, Calls Tryd.prog 27 #[.string TD, .int .i64 1000] W fun e w' => e = .returned (.int .i64 (numI d 1000)) ∧ W = w') := fun W => by
                      have h9 := number_any (textS d) 1000 W (by rw [text_size]; have := HPL.out d (by simp); unfold maxLen; omega) (by omega) (by omega) _ rfl
                      rw [HTD.out] at h9
                      exact h9.mono fun e w' h8 => ⟨by rw [h8.1, ← HTD.out]; rfl, h8.2⟩
                    have H4 : Hid (∀ W : World, Calls Tryd.prog 27 #[.string TE, .int .i64 1000000000] W fun e w' => e = .returned (.int .i64 (numI e' 1000000000)) ∧ W = w') := fun W => by
                      have h9 := number_any (textS e') 1000000000 W (by rw [text_size]; have := HPL.out e' (by simp); unfold maxLen; omega) (by omega) (by omega) _ rfl
                      rw [HTE.out] at h9
                      exact h9.mono fun e w' h8 => ⟨by rw [h8.1, ← HTE.out]; rfl, h8.2⟩
                    have HLR : Hid (lineR (t ++ [sl]) [a, b, c, d, e'] = (arcR [a, b, c, d, e']).map (addArc (t ++ [sl]))) := by show _ = _; rw [lineR, if_neg (fun h9 => c0c h9.1), if_pos ⟨c1c, rfl, hle⟩]
                    have HAR : Hid (arcR [a, b, c, d, e'] = if numI b 60 < 0 ∨ numI c 1000 < 0 ∨ numI d 1000 < 0 ∨ numI e' 1000000000 < 0 then none else some (numI c 1000, numI d 1000, numI e' 1000000000, numI b 60)) := rfl
                    generalize numI b 60 = N1 at *
                    generalize numI c 1000 = N2 at *
                    generalize numI d 1000 = N3 at *
                    generalize numI e' 1000000000 = N4 at *
                    have hln : ¬ ((t.length + 1 : Nat) : Int) = 0 := by omega
                    have hlb : (((t.length + 1 : Nat) : Int) == 0) = false := by simp; omega
                    have hlb2 : ((t.length : Int) + 1 == 0) = false := by simp; omega
                    have hfl := hfew.out.2 sl (by simp)
                    clear hle
                    by_cases hneg : N1 < 0 ∨ N2 < 0 ∨ N3 < 0 ∨ N4 < 0
                    · have HA : Hid (ReadAns s.data.toList (0, []) 3) := HBAD.out (k + 1) (by rw [HR2.out, HLR.out, HAR.out, if_pos hneg]; rfl)
                      by_cases e1 : N1 < 0
                      · have e1b : decide (N1 < 0) = true := decide_eq_true e1
                        obtain ⟨av, cvs, hvs⟩ := hos.out.sl
                        rw [show (t ++ [sl]).length = t.length + 1 from by simp] at hvs
                        subst hvs
                        go_wp2_with (first
                          | (go_at_call 26; (with_reducible refine (HPC.out _).mono ?_); rintro e w2 ⟨v2, rfl, hst2, hb2⟩; obtain ⟨bp, op, cp, hvp, hbp, hcp⟩ := hst2.plain hP1; subst hvp; have p0 : w2.cell? ⟨bp, op, none⟩ = some (.string T0) := (by rw [← HT0.out]; exact hcp 0 (by simp)); have p1 : w2.cell? ⟨bp, op + 1, none⟩ = some (.string TB) := (by rw [← HTB.out]; exact hcp 1 (by simp)); have p2 : w2.cell? ⟨bp, op + 2, none⟩ = some (.string TC) := (by rw [← HTC.out]; exact hcp 2 (by simp)); have p3 : w2.cell? ⟨bp, op + 3, none⟩ = some (.string TD) := (by rw [← HTD.out]; exact hcp 3 (by simp)); have p4 : w2.cell? ⟨bp, op + 4, none⟩ = some (.string TE) := (by rw [← HTE.out]; exact hcp 4 (by simp)); have HB2 : Hid (Below w.heap.size w w2) := HBW.out.trans (hb2.mono HBW.out.size); have KR2 : Hid (Blk w2 w.heap.size #[.int .i64 0, .slice none 0 0] 24) := KR.out.below hb2 KR.out.lt; have KM2 : Hid (Blk w2 w1.heap.size #[.int .i64 z, .slice av (t.length + 1) cvs] 24) := hbx.out.below hb2 hbx.out.lt; have OA2 : Hid (OwnApt w2 (w1.heap.size + 1) (.slice av (t.length + 1) cvs) (t ++ [sl])) := hos.out.later hb2; have BW2 : Hid (Below w1.heap.size w1 w2) := hb.out.trans (hb2.mono hb.out.size); have SZ2 : w1.heap.size + 1 ≤ w2.heap.size := Nat.le_trans hsz hb2.size; have r0 := KR2.out.cell 0 (v := .int .i64 0) rfl; have r1 := KR2.out.cell 1 (v := .slice none 0 0) rfl; have q0 := KR2.out.fz 0; have q1 := KR2.out.fz 1; have m0 := KM2.out.cell 0 (v := .int .i64 z) rfl; have m1 := KM2.out.cell 1 (v := .slice av (t.length + 1) cvs) rfl; have n0 := KM2.out.fz 0; have n1 := KM2.out.fz 1; clear hst2 hb2 hcp)
                          | (go_at_call 27; (with_reducible refine (H1.out _).mono ?_); rintro e w5 ⟨rfl, rfl⟩)
                          | (go_at_call 27; (with_reducible refine (H2.out _).mono ?_); rintro e w5 ⟨rfl, rfl⟩)
                          | (go_at_call 27; (with_reducible refine (H3.out _).mono ?_); rintro e w5 ⟨rfl, rfl⟩)
                          | (go_at_call 27; (with_reducible refine (H4.out _).mono ?_); rintro e w5 ⟨rfl, rfl⟩))
                        exact zero_post KR2.out HB2.out HA.out rfl rfl
                      · have e1b : decide (N1 < 0) = false := decide_eq_false e1
                        by_cases e2 : N2 < 0
                        · have e2b : decide (N2 < 0) = true := decide_eq_true e2
                          obtain ⟨av, cvs, hvs⟩ := hos.out.sl
                          rw [show (t ++ [sl]).length = t.length + 1 from by simp] at hvs
                          subst hvs
                          go_wp2_with (first
                            | (go_at_call 26; (with_reducible refine (HPC.out _).mono ?_); rintro e w2 ⟨v2, rfl, hst2, hb2⟩; obtain ⟨bp, op, cp, hvp, hbp, hcp⟩ := hst2.plain hP1; subst hvp; have p0 : w2.cell? ⟨bp, op, none⟩ = some (.string T0) := (by rw [← HT0.out]; exact hcp 0 (by simp)); have p1 : w2.cell? ⟨bp, op + 1, none⟩ = some (.string TB) := (by rw [← HTB.out]; exact hcp 1 (by simp)); have p2 : w2.cell? ⟨bp, op + 2, none⟩ = some (.string TC) := (by rw [← HTC.out]; exact hcp 2 (by simp)); have p3 : w2.cell? ⟨bp, op + 3, none⟩ = some (.string TD) := (by rw [← HTD.out]; exact hcp 3 (by simp)); have p4 : w2.cell? ⟨bp, op + 4, none⟩ = some (.string TE) := (by rw [← HTE.out]; exact hcp 4 (by simp)); have HB2 : Hid (Below w.heap.size w w2) := HBW.out.trans (hb2.mono HBW.out.size); have KR2 : Hid (Blk w2 w.heap.size #[.int .i64 0, .slice none 0 0] 24) := KR.out.below hb2 KR.out.lt; have KM2 : Hid (Blk w2 w1.heap.size #[.int .i64 z, .slice av (t.length + 1) cvs] 24) := hbx.out.below hb2 hbx.out.lt; have OA2 : Hid (OwnApt w2 (w1.heap.size + 1) (.slice av (t.length + 1) cvs) (t ++ [sl])) := hos.out.later hb2; have BW2 : Hid (Below w1.heap.size w1 w2) := hb.out.trans (hb2.mono hb.out.size); have SZ2 : w1.heap.size + 1 ≤ w2.heap.size := Nat.le_trans hsz hb2.size; have r0 := KR2.out.cell 0 (v := .int .i64 0) rfl; have r1 := KR2.out.cell 1 (v := .slice none 0 0) rfl; have q0 := KR2.out.fz 0; have q1 := KR2.out.fz 1; have m0 := KM2.out.cell 0 (v := .int .i64 z) rfl; have m1 := KM2.out.cell 1 (v := .slice av (t.length + 1) cvs) rfl; have n0 := KM2.out.fz 0; have n1 := KM2.out.fz 1; clear hst2 hb2 hcp)
                            | (go_at_call 27; (with_reducible refine (H1.out _).mono ?_); rintro e w5 ⟨rfl, rfl⟩)
                            | (go_at_call 27; (with_reducible refine (H2.out _).mono ?_); rintro e w5 ⟨rfl, rfl⟩)
                            | (go_at_call 27; (with_reducible refine (H3.out _).mono ?_); rintro e w5 ⟨rfl, rfl⟩)
                            | (go_at_call 27; (with_reducible refine (H4.out _).mono ?_); rintro e w5 ⟨rfl, rfl⟩))
                          exact zero_post KR2.out HB2.out HA.out rfl rfl
                        · have e2b : decide (N2 < 0) = false := decide_eq_false e2
                          by_cases e3 : N3 < 0
                          · have e3b : decide (N3 < 0) = true := decide_eq_true e3
                            obtain ⟨av, cvs, hvs⟩ := hos.out.sl
                            rw [show (t ++ [sl]).length = t.length + 1 from by simp] at hvs
                            subst hvs
                            go_wp2_with (first
                              | (go_at_call 26; (with_reducible refine (HPC.out _).mono ?_); rintro e w2 ⟨v2, rfl, hst2, hb2⟩; obtain ⟨bp, op, cp, hvp, hbp, hcp⟩ := hst2.plain hP1; subst hvp; have p0 : w2.cell? ⟨bp, op, none⟩ = some (.string T0) := (by rw [← HT0.out]; exact hcp 0 (by simp)); have p1 : w2.cell? ⟨bp, op + 1, none⟩ = some (.string TB) := (by rw [← HTB.out]; exact hcp 1 (by simp)); have p2 : w2.cell? ⟨bp, op + 2, none⟩ = some (.string TC) := (by rw [← HTC.out]; exact hcp 2 (by simp)); have p3 : w2.cell? ⟨bp, op + 3, none⟩ = some (.string TD) := (by rw [← HTD.out]; exact hcp 3 (by simp)); have p4 : w2.cell? ⟨bp, op + 4, none⟩ = some (.string TE) := (by rw [← HTE.out]; exact hcp 4 (by simp)); have HB2 : Hid (Below w.heap.size w w2) := HBW.out.trans (hb2.mono HBW.out.size); have KR2 : Hid (Blk w2 w.heap.size #[.int .i64 0, .slice none 0 0] 24) := KR.out.below hb2 KR.out.lt; have KM2 : Hid (Blk w2 w1.heap.size #[.int .i64 z, .slice av (t.length + 1) cvs] 24) := hbx.out.below hb2 hbx.out.lt; have OA2 : Hid (OwnApt w2 (w1.heap.size + 1) (.slice av (t.length + 1) cvs) (t ++ [sl])) := hos.out.later hb2; have BW2 : Hid (Below w1.heap.size w1 w2) := hb.out.trans (hb2.mono hb.out.size); have SZ2 : w1.heap.size + 1 ≤ w2.heap.size := Nat.le_trans hsz hb2.size; have r0 := KR2.out.cell 0 (v := .int .i64 0) rfl; have r1 := KR2.out.cell 1 (v := .slice none 0 0) rfl; have q0 := KR2.out.fz 0; have q1 := KR2.out.fz 1; have m0 := KM2.out.cell 0 (v := .int .i64 z) rfl; have m1 := KM2.out.cell 1 (v := .slice av (t.length + 1) cvs) rfl; have n0 := KM2.out.fz 0; have n1 := KM2.out.fz 1; clear hst2 hb2 hcp)
                              | (go_at_call 27; (with_reducible refine (H1.out _).mono ?_); rintro e w5 ⟨rfl, rfl⟩)
                              | (go_at_call 27; (with_reducible refine (H2.out _).mono ?_); rintro e w5 ⟨rfl, rfl⟩)
                              | (go_at_call 27; (with_reducible refine (H3.out _).mono ?_); rintro e w5 ⟨rfl, rfl⟩)
                              | (go_at_call 27; (with_reducible refine (H4.out _).mono ?_); rintro e w5 ⟨rfl, rfl⟩))
                            exact zero_post KR2.out HB2.out HA.out rfl rfl
                          · have e3b : decide (N3 < 0) = false := decide_eq_false e3
                            have e4 : N4 < 0 := by omega
                            have e4b : decide (N4 < 0) = true := decide_eq_true e4
                            obtain ⟨av, cvs, hvs⟩ := hos.out.sl
                            rw [show (t ++ [sl]).length = t.length + 1 from by simp] at hvs
                            subst hvs
                            go_wp2_with (first
                              | (go_at_call 26; (with_reducible refine (HPC.out _).mono ?_); rintro e w2 ⟨v2, rfl, hst2, hb2⟩; obtain ⟨bp, op, cp, hvp, hbp, hcp⟩ := hst2.plain hP1; subst hvp; have p0 : w2.cell? ⟨bp, op, none⟩ = some (.string T0) := (by rw [← HT0.out]; exact hcp 0 (by simp)); have p1 : w2.cell? ⟨bp, op + 1, none⟩ = some (.string TB) := (by rw [← HTB.out]; exact hcp 1 (by simp)); have p2 : w2.cell? ⟨bp, op + 2, none⟩ = some (.string TC) := (by rw [← HTC.out]; exact hcp 2 (by simp)); have p3 : w2.cell? ⟨bp, op + 3, none⟩ = some (.string TD) := (by rw [← HTD.out]; exact hcp 3 (by simp)); have p4 : w2.cell? ⟨bp, op + 4, none⟩ = some (.string TE) := (by rw [← HTE.out]; exact hcp 4 (by simp)); have HB2 : Hid (Below w.heap.size w w2) := HBW.out.trans (hb2.mono HBW.out.size); have KR2 : Hid (Blk w2 w.heap.size #[.int .i64 0, .slice none 0 0] 24) := KR.out.below hb2 KR.out.lt; have KM2 : Hid (Blk w2 w1.heap.size #[.int .i64 z, .slice av (t.length + 1) cvs] 24) := hbx.out.below hb2 hbx.out.lt; have OA2 : Hid (OwnApt w2 (w1.heap.size + 1) (.slice av (t.length + 1) cvs) (t ++ [sl])) := hos.out.later hb2; have BW2 : Hid (Below w1.heap.size w1 w2) := hb.out.trans (hb2.mono hb.out.size); have SZ2 : w1.heap.size + 1 ≤ w2.heap.size := Nat.le_trans hsz hb2.size; have r0 := KR2.out.cell 0 (v := .int .i64 0) rfl; have r1 := KR2.out.cell 1 (v := .slice none 0 0) rfl; have q0 := KR2.out.fz 0; have q1 := KR2.out.fz 1; have m0 := KM2.out.cell 0 (v := .int .i64 z) rfl; have m1 := KM2.out.cell 1 (v := .slice av (t.length + 1) cvs) rfl; have n0 := KM2.out.fz 0; have n1 := KM2.out.fz 1; clear hst2 hb2 hcp)
                              | (go_at_call 27; (with_reducible refine (H1.out _).mono ?_); rintro e w5 ⟨rfl, rfl⟩)
                              | (go_at_call 27; (with_reducible refine (H2.out _).mono ?_); rintro e w5 ⟨rfl, rfl⟩)
                              | (go_at_call 27; (with_reducible refine (H3.out _).mono ?_); rintro e w5 ⟨rfl, rfl⟩)
                              | (go_at_call 27; (with_reducible refine (H4.out _).mono ?_); rintro e w5 ⟨rfl, rfl⟩))
                            exact zero_post KR2.out HB2.out HA.out rfl rfl
                    · have HRD : Hid (readF ((xs.take (k + 1)).map wordsL) = some (z, t ++ [(sl.1, sl.2 ++ [(N2, N3, N4, N1)])])) := by show _ = _; rw [HR2.out, HLR.out, HAR.out, if_neg hneg]; show some (z, addArc (t ++ [sl]) (N2, N3, N4, N1)) = _; rw [addArc_last]
                      have e1 : ¬ N1 < 0 := by omega
                      have e1b : decide (N1 < 0) = false := decide_eq_false e1
                      have e2 : ¬ N2 < 0 := by omega
                      have e2b : decide (N2 < 0) = false := decide_eq_false e2
                      have e3 : ¬ N3 < 0 := by omega
                      have e3b : decide (N3 < 0) = false := decide_eq_false e3
                      have e4 : ¬ N4 < 0 := by omega
                      have e4b : decide (N4 < 0) = false := decide_eq_false e4
                      clear hneg
                      have hfl2 := hfew.out.1
                      rw [show (t ++ [sl]).length = t.length + 1 from by simp] at hfl2
                      have hqw : IntKind.i64.wrap (t.length : Int) = (t.length : Int) := wrapI (by omega) (by omega)
                      go_wp2_with (first
                        | (go_at_call 26; (with_reducible refine (HPC.out _).mono ?_); rintro e w2 ⟨v2, rfl, hst2, hb2⟩; obtain ⟨bp, op, cp, hvp, hbp, hcp⟩ := hst2.plain hP1; subst hvp; have p0 : w2.cell? ⟨bp, op, none⟩ = some (.string T0) := (by rw [← HT0.out]; exact hcp 0 (by simp)); have p1 : w2.cell? ⟨bp, op + 1, none⟩ = some (.string TB) := (by rw [← HTB.out]; exact hcp 1 (by simp)); have p2 : w2.cell? ⟨bp, op + 2, none⟩ = some (.string TC) := (by rw [← HTC.out]; exact hcp 2 (by simp)); have p3 : w2.cell? ⟨bp, op + 3, none⟩ = some (.string TD) := (by rw [← HTD.out]; exact hcp 3 (by simp)); have p4 : w2.cell? ⟨bp, op + 4, none⟩ = some (.string TE) := (by rw [← HTE.out]; exact hcp 4 (by simp)); have HB2 : Hid (Below w.heap.size w w2) := HBW.out.trans (hb2.mono HBW.out.size); have KR2 : Hid (Blk w2 w.heap.size #[.int .i64 0, .slice none 0 0] 24) := KR.out.below hb2 KR.out.lt; have KM2 : Hid (Blk w2 w1.heap.size #[.int .i64 z, vs] 24) := hbx.out.below hb2 hbx.out.lt; have OA2 : Hid (OwnApt w2 (w1.heap.size + 1) vs (t ++ [sl])) := hos.out.later hb2; have BW2 : Hid (Below w1.heap.size w1 w2) := hb.out.trans (hb2.mono hb.out.size); have SZ2 : w1.heap.size + 1 ≤ w2.heap.size := Nat.le_trans hsz hb2.size; have r0 := KR2.out.cell 0 (v := .int .i64 0) rfl; have r1 := KR2.out.cell 1 (v := .slice none 0 0) rfl; have q0 := KR2.out.fz 0; have q1 := KR2.out.fz 1; have m0 := KM2.out.cell 0 (v := .int .i64 z) rfl; have n0 := KM2.out.fz 0; have n1 := KM2.out.fz 1; obtain ⟨g, capg, a4, c4, hvg, hbg, hgl, hcl4, a5, c5', w4, r4, hc4, hf4, hb4, oA⟩ := OwnApt.arc (w := w2.drew) OA2.out SZ2 (N2, N3, N4, N1) (by omega); subst hvg; have KM2' : Hid (Blk w2 w1.heap.size #[.int .i64 z, .slice (some ⟨g, 0, none⟩) (t.length + 1) capg] 24) := KM2.out; have m1' := KM2'.out.cell 1 (v := .slice (some ⟨g, 0, none⟩) (t.length + 1) capg) rfl; have R4 : Hid ((Builtin.append_ #[35, 35] 35 #[.slice a4 sl.2.length c4, .slice (some ⟨w2.drew.heap.size, 0, none⟩) 1 1]).run Tryd.prog (w2.drew.alloc (.cells #[.int .i64 N2, .int .i64 N3, .int .i64 N4, .int .i64 N1] 46)) = .ok (.slice a5 (sl.2.length + 1) c5') w4) := r4; have OA4 : Hid (OwnApt (w4.setCell ⟨g, t.length * 2 + 1, none⟩ (.slice a5 (sl.2.length + 1) c5')) (w1.heap.size + 1) (.slice (some ⟨g, 0, none⟩) (t.length + 1) capg) (t ++ [(sl.1, sl.2 ++ [(N2, N3, N4, N1)])])) := oA; have HB4 : Hid (Below (w1.heap.size + 1) w2.drew w4) := hb4; have HCL4 : Hid (w2.drew.cell? ⟨g, t.length * 2 + 1, none⟩ = some (.slice a4 sl.2.length c4)) := hcl4; clear r4 oA hb4 hcl4; clear hst2 hb2 hcp)
                        | (go_at_call 27; (with_reducible refine (H1.out _).mono ?_); rintro e w5 ⟨rfl, rfl⟩)
                        | (go_at_call 27; (with_reducible refine (H2.out _).mono ?_); rintro e w5 ⟨rfl, rfl⟩)
                        | (go_at_call 27; (with_reducible refine (H3.out _).mono ?_); rintro e w5 ⟨rfl, rfl⟩)
                        | (go_at_call 27; (with_reducible refine (H4.out _).mono ?_); rintro e w5 ⟨rfl, rfl⟩))
                      have HS : HeldV w1.heap.size g t.length (.slice (some ⟨g, 0, none⟩) (t.length + 1) capg) (.slice a4 sl.2.length c4) w2.drew := ⟨m1', HCL4.out⟩
                      have HSA : HeldV w1.heap.size g t.length (.slice (some ⟨g, 0, none⟩) (t.length + 1) capg) (.slice a4 sl.2.length c4) (w2.drew.alloc (.cells #[.int .i64 N2, .int .i64 N3, .int .i64 N4, .int .i64 N1] 46)) := ⟨(KM2'.out.drew.alloc _).cell 1 rfl, (((Below.refl w2.drew.heap.size w2.drew).alloc (Nat.le_refl _) _).cell (p := ⟨g, t.length * 2 + 1, none⟩) hgl).trans HCL4.out⟩
                      have KM4 : Hid (Blk w4 w1.heap.size #[.int .i64 z, .slice (some ⟨g, 0, none⟩) (t.length + 1) capg] 24) := KM2'.out.drew.below HB4.out (Nat.lt_succ_self _)
                      have HS4 : HeldV w1.heap.size g t.length (.slice (some ⟨g, 0, none⟩) (t.length + 1) capg) (.slice a4 sl.2.length c4) w4 := ⟨KM4.out.cell 1 rfl, hc4⟩
                      have KM5 : Hid (Blk (w4.setCell ⟨g, t.length * 2 + 1, none⟩ (.slice a5 (sl.2.length + 1) c5')) w1.heap.size #[.int .i64 z, .slice (some ⟨g, 0, none⟩) (t.length + 1) capg] 24) := KM4.out.setO _ _ (by show w1.heap.size ≠ g; omega)
                      have BW5 : Hid (Below w1.heap.size w1 (w4.setCell ⟨g, t.length * 2 + 1, none⟩ (.slice a5 (sl.2.length + 1) c5'))) := ((BW2.out.drew).trans (HB4.out.mono (by omega))).setCell (by show w1.heap.size ≤ g; omega) _
                      have SZ5 : w1.heap.size + 1 ≤ w4.heap.size := Nat.le_trans SZ2 HB4.out.size
                      have k0 : (0 : Int) ≤ (t.length : Int) := by omega
                      have k1 : (t.length : Int) < (t.length : Int) + 1 := by omega
                      refine region_anyL (HeldV w1.heap.size g t.length (.slice (some ⟨g, 0, none⟩) (t.length + 1) capg) (.slice a4 sl.2.length c4)) 18 (by kernel_rfl) ?_
                      refine anyL_take (i := 0) (v := ?v0_17) at0 (by kernel_rfl) (by kernel_rfl) (by kernel_rfl) (by kernel_rfl) (fun _ _ _ h => h) rfl ?y0_17 HS ?r0_17
                      case y0_17 => intro wx hx; obtain ⟨h1, h2⟩ := hx; go_simp; try (with_reducible rfl)
                      simp only [Act.put, List.setIfInBounds_toArray, List.set_cons_zero, List.set_cons_succ]
                      refine anyL_take (i := 1) (v := ?v1_18) (atS at0) (by kernel_rfl) (by kernel_rfl) (by kernel_rfl) (by kernel_rfl) (fun _ _ _ h => h) rfl ?y1_18 HS ?r1_18
                      case y1_18 => intro wx hx; obtain ⟨h1, h2⟩ := hx; go_simp; try (with_reducible rfl)
                      simp only [Act.put, List.setIfInBounds_toArray, List.set_cons_zero, List.set_cons_succ]
                      refine anyL_take (i := 2) (v := ?v2_19) (atS (atS at0)) (by kernel_rfl) (by kernel_rfl) (by kernel_rfl) (by kernel_rfl) (fun _ _ _ h => h) rfl ?y2_19 HS ?r2_19
                      case y2_19 => intro wx hx; obtain ⟨h1, h2⟩ := hx; go_simp; try (with_reducible rfl)
                      simp only [Act.put, List.setIfInBounds_toArray, List.set_cons_zero, List.set_cons_succ]
                      refine anyL_take (i := 3) (v := ?v3_20) (atS (atS (atS at0))) (by kernel_rfl) (by kernel_rfl) (by kernel_rfl) (by kernel_rfl) (fun _ _ _ h => h) rfl ?y3_20 HS ?r3_20
                      case y3_20 => intro wx hx; obtain ⟨h1, h2⟩ := hx; go_simp; try (with_reducible rfl)
                      simp only [Act.put, List.setIfInBounds_toArray, List.set_cons_zero, List.set_cons_succ]
                      refine anyL_take (i := 4) (v := ?v4_21) (atS (atS (atS (atS at0)))) (by kernel_rfl) (by kernel_rfl) (by kernel_rfl) (by kernel_rfl) (fun _ _ _ h => h) rfl ?y4_21 HS ?r4_21
                      case y4_21 => intro wx hx; obtain ⟨h1, h2⟩ := hx; go_simp; try (with_reducible rfl)
                      simp only [Act.put, List.setIfInBounds_toArray, List.set_cons_zero, List.set_cons_succ]
                      refine anyL_take (i := 5) (v := ?v5_22) (atS (atS (atS (atS (atS at0))))) (by kernel_rfl) (by kernel_rfl) (by kernel_rfl) (by kernel_rfl) (fun _ _ _ h => h) rfl ?y5_22 HS ?r5_22
                      case y5_22 => intro wx hx; obtain ⟨h1, h2⟩ := hx; go_simp; try (with_reducible rfl)
                      simp only [Act.put, List.setIfInBounds_toArray, List.set_cons_zero, List.set_cons_succ]
                      refine anyL_take (i := 6) (v := ?v6_23) (atS (atS (atS (atS (atS (atS at0)))))) (by kernel_rfl) (by kernel_rfl) (by kernel_rfl) (by kernel_rfl) (fun _ _ _ h => h) rfl ?y6_23 HS ?r6_23
                      case y6_23 => intro wx hx; obtain ⟨h1, h2⟩ := hx; go_simp; try (with_reducible rfl)
                      simp only [Act.put, List.setIfInBounds_toArray, List.set_cons_zero, List.set_cons_succ]
                      refine anyL_take (i := 7) (v := ?v7_24) (atS (atS (atS (atS (atS (atS (atS at0))))))) (by kernel_rfl) (by kernel_rfl) (by kernel_rfl) (by kernel_rfl) (fun _ _ _ h => h) rfl ?y7_24 HS ?r7_24
                      case y7_24 => intro wx hx; obtain ⟨h1, h2⟩ := hx; go_simp; try (with_reducible rfl)
                      simp only [Act.put, List.setIfInBounds_toArray, List.set_cons_zero, List.set_cons_succ]
                      refine anyL_take (i := 8) (v := ?v8_25) (atS (atS (atS (atS (atS (atS (atS (atS at0)))))))) (by kernel_rfl) (by kernel_rfl) (by kernel_rfl) (by kernel_rfl) (fun _ _ _ h => h) rfl ?y8_25 HS ?r8_25
                      case y8_25 => intro wx hx; obtain ⟨h1, h2⟩ := hx; go_simp; try (with_reducible rfl)
                      simp only [Act.put, List.setIfInBounds_toArray, List.set_cons_zero, List.set_cons_succ]
                      refine anyL_take (i := 9) (v := ?v9_26) (atS (atS (atS (atS (atS (atS (atS (atS (atS at0))))))))) (by kernel_rfl) (by kernel_rfl) (by kernel_rfl) (by kernel_rfl) (fun _ _ _ h => h) rfl ?y9_26 HS ?r9_26
                      case y9_26 => intro wx hx; obtain ⟨h1, h2⟩ := hx; go_simp; try (with_reducible rfl)
                      simp only [Act.put, List.setIfInBounds_toArray, List.set_cons_zero, List.set_cons_succ]
                      refine anyL_take (i := 10) (v := ?v10_27) (atS (atS (atS (atS (atS (atS (atS (atS (atS (atS at0)))))))))) (by kernel_rfl) (by kernel_rfl) (by kernel_rfl) (by kernel_rfl) (fun _ _ _ h => h) rfl ?y10_27 HS ?r10_27
                      case y10_27 => intro wx hx; obtain ⟨h1, h2⟩ := hx; go_simp; try (with_reducible rfl)
                      simp only [Act.put, List.setIfInBounds_toArray, List.set_cons_zero, List.set_cons_succ]
                      refine anyL_take (i := 11) (v := ?v11_28) (atS (atS (atS (atS (atS (atS (atS (atS (atS (atS (atS at0))))))))))) (by kernel_rfl) (by kernel_rfl) (by kernel_rfl) (by kernel_rfl) (fun _ _ _ h => h) rfl ?y11_28 HS ?r11_28
                      case y11_28 => intro wx hx; obtain ⟨h1, h2⟩ := hx; go_simp; try (with_reducible rfl)
                      simp only [Act.put, List.setIfInBounds_toArray, List.set_cons_zero, List.set_cons_succ]
                      refine anyL_take (i := 12) (v := ?v12_29) (atS (atS (atS (atS (atS (atS (atS (atS (atS (atS (atS (atS at0)))))))))))) (by kernel_rfl) (by kernel_rfl) (by kernel_rfl) (by kernel_rfl) (fun _ _ _ h => h) rfl ?y12_29 HS ?r12_29
                      case y12_29 => intro wx hx; obtain ⟨h1, h2⟩ := hx; go_simp; try (with_reducible rfl)
                      simp only [Act.put, List.setIfInBounds_toArray, List.set_cons_zero, List.set_cons_succ]
                      refine anyL_take (i := 13) (v := ?v13_30) (atS (atS (atS (atS (atS (atS (atS (atS (atS (atS (atS (atS (atS at0))))))))))))) (by kernel_rfl) (by kernel_rfl) (by kernel_rfl) (by kernel_rfl) (fun _ _ _ h => h) rfl ?y13_30 HS ?r13_30
                      case y13_30 => intro wx hx; obtain ⟨h1, h2⟩ := hx; go_simp; try (with_reducible rfl)
                      simp only [Act.put, List.setIfInBounds_toArray, List.set_cons_zero, List.set_cons_succ]
                      refine anyL_one (i := 14) (atS (atS (atS (atS (atS (atS (atS (atS (atS (atS (atS (atS (atS (atS at0)))))))))))))) (by kernel_rfl) rfl (fun K hK => ?_)
                      go_simp
                      refine hK _ _ (.inr HSA) ?_
                      try simp only [Act.put, List.setIfInBounds_toArray, List.set_cons_zero, List.set_cons_succ]
                      refine anyL_one (i := 15) (atS (atS (atS (atS (atS (atS (atS (atS (atS (atS (atS (atS (atS (atS (atS at0))))))))))))))) (by kernel_rfl) rfl (fun K hK => ?_)
                      refine wp_append_run (.tmp 155) (.tmp 161) 35 rfl rfl rfl R4.out ?_
                      refine hK _ _ (.inr HS4) ?_
                      try simp only [Act.put, List.setIfInBounds_toArray, List.set_cons_zero, List.set_cons_succ]
                      refine anyL_one (i := 16) (atS (atS (atS (atS (atS (atS (atS (atS (atS (atS (atS (atS (atS (atS (atS (atS at0)))))))))))))))) (by kernel_rfl) rfl (fun K hK => ?_)
                      go_simp
                      refine hK _ _ (.inr HS4) ?_
                      try simp only [Act.put, List.setIfInBounds_toArray, List.set_cons_zero, List.set_cons_succ]
                      refine anyL_take (i := 17) (v := ?v17_31) (atS (atS (atS (atS (atS (atS (atS (atS (atS (atS (atS (atS (atS (atS (atS (atS (atS at0))))))))))))))))) (by kernel_rfl) (by kernel_rfl) (by kernel_rfl) (by kernel_rfl) (fun _ _ _ h => h) rfl ?y17_31 HS4 ?r17_31
                      case y17_31 => intro wx hx; obtain ⟨h1, h2⟩ := hx; go_simp; try (with_reducible rfl)
                      simp only [Act.put, List.setIfInBounds_toArray, List.set_cons_zero, List.set_cons_succ]
                      refine anyL_one (i := 18) (atS (atS (atS (atS (atS (atS (atS (atS (atS (atS (atS (atS (atS (atS (atS (atS (atS (atS at0)))))))))))))))))) (by kernel_rfl) rfl (fun K hK => ?_)
                      go_simp
                      refine hK _ _ (.inl rfl) (anyL_done (by kernel_rfl) (NoPanic.normal ?_))
                      try simp only [Act.put, List.setIfInBounds_toArray, List.set_cons_zero, List.set_cons_succ]
                      clear HS HSA HS4 hc4 hf4
                      go_wp2
                      go_roundw
                      case rel =>
                        first
                          | exact ⟨k + 1, z, _, t ++ [(sl.1, sl.2 ++ [(N2, N3, N4, N1)])], by omega, by go_num, HRD, hfew.out.arc _, KM5, OA4, BW5, by simp [World.setCell]; exact SZ5⟩
                          | trace_state
                      case measure => simp [intOf]; omega
                · have c5n : ¬ (P.length : Int) = 5 := by omega
                  have c5b : ((P.length : Int) != 5) = true := by simp; omega
                  have HA : Hid (ReadAns s.data.toList (0, []) 3) := HBAD.out (k + 1) (by rw [HR2.out, lineR, if_neg (fun h9 => c0c h9.1), if_neg (fun h9 => c5 h9.2.1)]; rfl)
                  go_wp2_with (first
                    | (go_at_call 26; (with_reducible refine (HPC.out _).mono ?_); rintro e w2 ⟨v2, rfl, hst2, hb2⟩; obtain ⟨bp, op, cp, hvp, hbp, hcp⟩ := hst2.plain hP1; subst hvp; have p0 : w2.cell? ⟨bp, op, none⟩ = some (.string T0) := (by rw [← HT0.out]; exact hcp 0 hP1); have HB2 : Hid (Below w.heap.size w w2) := HBW.out.trans (hb2.mono HBW.out.size); have KR2 : Hid (Blk w2 w.heap.size #[.int .i64 0, .slice none 0 0] 24) := KR.out.below hb2 KR.out.lt; have KM2 : Hid (Blk w2 w1.heap.size #[.int .i64 z, vs] 24) := hbx.out.below hb2 hbx.out.lt; have OA2 : Hid (OwnApt w2 (w1.heap.size + 1) vs l) := hos.out.later hb2; have BW2 : Hid (Below w1.heap.size w1 w2) := hb.out.trans (hb2.mono hb.out.size); have SZ2 : w1.heap.size + 1 ≤ w2.heap.size := Nat.le_trans hsz hb2.size; have r0 := KR2.out.cell 0 (v := .int .i64 0) rfl; have r1 := KR2.out.cell 1 (v := .slice none 0 0) rfl; have q0 := KR2.out.fz 0; have q1 := KR2.out.fz 1; have m0 := KM2.out.cell 0 (v := .int .i64 z) rfl; have m1 := KM2.out.cell 1 (v := vs) rfl; have n0 := KM2.out.fz 0; have n1 := KM2.out.fz 1; clear hst2 hb2 hcp))
                  exact zero_post KR2.out HB2.out HA.out rfl rfl
              · skip
                have c1 : (T0.toList == [97, 114, 99]) = false := by rw [← HT0.out, text_list]; simpa [wStart, wState, wArc] using c1c
                have c1n : (T0.toList != [97, 114, 99]) = true := by show (!(T0.toList == [97, 114, 99])) = true; rw [c1]; rfl
                have HA : Hid (ReadAns s.data.toList (0, []) 3) := HBAD.out (k + 1) (by rw [HR2.out, lineR, if_neg (fun h9 => c0c h9.1), if_neg (fun h9 => c1c h9.1)]; rfl)
                go_wp2_with (first
                  | (go_at_call 26; (with_reducible refine (HPC.out _).mono ?_); rintro e w2 ⟨v2, rfl, hst2, hb2⟩; obtain ⟨bp, op, cp, hvp, hbp, hcp⟩ := hst2.plain hP1; subst hvp; have p0 : w2.cell? ⟨bp, op, none⟩ = some (.string T0) := (by rw [← HT0.out]; exact hcp 0 hP1); have HB2 : Hid (Below w.heap.size w w2) := HBW.out.trans (hb2.mono HBW.out.size); have KR2 : Hid (Blk w2 w.heap.size #[.int .i64 0, .slice none 0 0] 24) := KR.out.below hb2 KR.out.lt; have KM2 : Hid (Blk w2 w1.heap.size #[.int .i64 z, vs] 24) := hbx.out.below hb2 hbx.out.lt; have OA2 : Hid (OwnApt w2 (w1.heap.size + 1) vs l) := hos.out.later hb2; have BW2 : Hid (Below w1.heap.size w1 w2) := hb.out.trans (hb2.mono hb.out.size); have SZ2 : w1.heap.size + 1 ≤ w2.heap.size := Nat.le_trans hsz hb2.size; have r0 := KR2.out.cell 0 (v := .int .i64 0) rfl; have r1 := KR2.out.cell 1 (v := .slice none 0 0) rfl; have q0 := KR2.out.fz 0; have q1 := KR2.out.fz 1; have m0 := KM2.out.cell 0 (v := .int .i64 z) rfl; have m1 := KM2.out.cell 1 (v := vs) rfl; have n0 := KM2.out.fz 0; have n1 := KM2.out.fz 1; clear hst2 hb2 hcp))
                exact zero_post KR2.out HB2.out HA.out rfl rfl
        · have hnl : ¬ (k : Int) < (n : Int) := by omega
          obtain rfl : k = n := by omega
          have HRM : Hid (readM s.data.toList = if faultM (z, l) = 0 then some (z, l) else none) := HALL.out (z, l) hrd.out
          obtain ⟨av, cvs, hvs⟩ := hos.out.sl
          subst hvs
          have HMA : Hid (Mach wr (.agg #[.int .i64 z, .slice av l.length cvs]) (z, l)) := ⟨_, rfl, hos.out.own.sts⟩
          have HOK : Hid (okM (z, l)) := hfew.out.ok (by omega)
          have m0 := hbx.out.cell 0 (v := .int .i64 z) rfl
          have m1 := hbx.out.cell 1 (v := .slice av l.length cvs) rfl
          obtain ⟨r, hr⟩ : ∃ r, faultM (z, l) = r := ⟨_, rfl⟩
          have HR : Hid (faultM (z, l) = r) := hr
          rw [hr] at HRM
          clear hr hrd
          by_cases h0 : r = 0
          · subst h0
            have HA : Hid (ReadAns s.data.toList (z, l) 0) := ReadAns.some HS.out (by rw [HRM.out, if_pos rfl])
            go_wp2_with (first
              | (go_at_call 19; (with_reducible refine (fault_any _ (z, l) _ HMA.out HOK.out 0 HR.out).mono ?_); rintro e w6 ⟨rfl, hb6⟩; have HB6 : Hid (Below w.heap.size w w6) := HBW.out.trans (hb6.mono HBW.out.size); have KR6 : Hid (Blk w6 w.heap.size #[.int .i64 0, .slice none 0 0] 24) := KR.out.below hb6 KR.out.lt; have KM6 : Hid (Blk w6 w1.heap.size #[.int .i64 z, .slice av l.length cvs] 24) := hbx.out.below hb6 hbx.out.lt; have OA6 : Hid (OwnApt w6 (w1.heap.size + 1) (.slice av l.length cvs) l) := hos.out.later hb6; have r0 := KR6.out.cell 0 (v := .int .i64 0) rfl; have r1 := KR6.out.cell 1 (v := .slice none 0 0) rfl; have q0 := KR6.out.fz 0; have q1 := KR6.out.fz 1; have g0 := KM6.out.cell 0 (v := .int .i64 z) rfl; have g1 := KM6.out.cell 1 (v := .slice av l.length cvs) rfl; clear hb6))
            have HMB : Hid (Mach ((w6.setCell ⟨w.heap.size, 0, none⟩ (.int .i64 z)).setCell ⟨w.heap.size, 1, none⟩ (.slice av l.length cvs)) (.agg #[.int .i64 z, .slice av l.length cvs]) (z, l)) := ⟨_, rfl, ((OA6.out.setCell (a := ⟨w.heap.size, 0, none⟩) (by show w.heap.size < _; omega) _).setCell (a := ⟨w.heap.size, 1, none⟩) (by show w.heap.size < _; omega) _).own.sts⟩
            exact bodyPost_ret (res_mach _ _ w.heap.size z 0 _ (blk_two KR6.out) rfl rfl) rfl ⟨_, (z, l), 0, rfl, HMB.out, HA.out, (HB6.out.setCell (Nat.le_refl _) _).setCell (Nat.le_refl _) _⟩
          · have h0b : (r != 0) = true := by simp [h0]
            have HA : Hid (ReadAns s.data.toList (0, []) 3) := ReadAns.none HS.out (by rw [HRM.out, if_neg h0])
            go_wp2_with (first
              | (go_at_call 19; (with_reducible refine (fault_any _ (z, l) _ HMA.out HOK.out r HR.out).mono ?_); rintro e w6 ⟨rfl, hb6⟩; have HB6 : Hid (Below w.heap.size w w6) := HBW.out.trans (hb6.mono HBW.out.size); have KR6 : Hid (Blk w6 w.heap.size #[.int .i64 0, .slice none 0 0] 24) := KR.out.below hb6 KR.out.lt; have r0 := KR6.out.cell 0 (v := .int .i64 0) rfl; have r1 := KR6.out.cell 1 (v := .slice none 0 0) rfl; have q0 := KR6.out.fz 0; have q1 := KR6.out.fz 1; clear hb6))
            exact zero_post KR6.out HB6.out HA.out rfl rfl
  · rw [decide_eq_false he] at HL
    have HA : Hid (ReadAns s.data.toList (0, []) 3) := ReadAns.none HS.out (readM_end (by rw [hlen]; exact he))
    go_enter Tryd.func12, Tryd.ntmps12
    go_wp2_with (first
      | (go_at_call 25; (with_reducible refine (HL.out _).mono ?_); rintro e w1 ⟨v1, rfl, hst, hb⟩; obtain ⟨s1, b1, hb1⟩ := boxed hb (by simp); have HB1 : Hid (Below w.heap.size w w1) := hb1; have K1 : Hid (Blk w1 w.heap.size #[.int .i64 0, .slice none 0 0] 24) := b1; have c0 := b1.cell 0 (v := .int .i64 0) rfl; have c1 := b1.cell 1 (v := .slice none 0 0) rfl; have f0 := b1.fz 0; have f1 := b1.fz 1; clear b1 hb1 hb hst))
    exact zero_post K1.out HB1.out HA.out rfl rfl
end Go.Proofs.YthaefajpdncoeaaDoor.Wt
