/- Slices of texts in memory; the reference's Lines and Parts. -/
import Derived.Test.YthaefajpdncoeaaDoorRows
import Derived.Test.YthaefajpdncoeaaDoorPlainL
import Derived.WalkKit
import Derived.ProofKit
import Derived.OpenShut
import Derived.Below
import Derived.Handy
import Derived.SizedLaws
import Derived.Laws.AppendOwn
import Derived.Maps.AppendAt
import Derived.WalkSmall
namespace Go.Proofs.YthaefajpdncoeaaDoor.Wt
open Go.ChangeShapes Go.WideShapes Go.ChangeAt Go.RowKit
open Go.Proofs.YthaefajpdncoeaaDoor.Pl
set_option linter.unusedVariables false
def strC (xs : List (List UInt8)) : List Value := xs.map fun x => .string (textS x)
def Strs (w : World) (v : Value) (xs : List (List UInt8)) : Prop :=
  (v = .slice none 0 0 ∧ xs = []) ∨
  ∃ (x : Addr) (cap : Nat), v = .slice (some x) xs.length cap ∧ ∀ j, j < xs.length → w.cell? (x.add j) = some (.string (textS (xs[j]?.getD [])))
theorem Strs.later {w w' : World} {v : Value} {xs : List (List UInt8)} (h : Strs w v xs) {B : Nat} (hb : Below B w w') (hB : w.heap.size ≤ B) : Strs w' v xs := by
  rcases h with h | ⟨x, cap, hv, hc⟩
  · exact .inl h
  · exact .inr ⟨x, cap, hv, fun j hj => (hb.cell (Nat.lt_of_lt_of_le (World.block_lt_of_cell? _ _ (hc j hj)) hB)).trans (hc j hj)⟩
theorem Strs.plain {w : World} {v : Value} {xs : List (List UInt8)} (h : Strs w v xs) (hz : 0 < xs.length) :
    ∃ b off cap, v = .slice (some ⟨b, off, none⟩) xs.length cap ∧ b < w.heap.size ∧ ∀ j, j < xs.length → w.cell? ⟨b, off + j, none⟩ = some (.string (textS (xs[j]?.getD []))) := by
  rcases h with ⟨_, rfl⟩ | ⟨x, cap, hv, hc⟩
  · simp at hz
  · obtain ⟨b, off, spot⟩ := x
    have hs : spot = none := by simpa [Addr.add] using World.cell?_spot (hc 0 hz)
    subst hs
    exact ⟨b, off, cap, hv, World.block_lt_of_cell? _ _ (hc 0 hz), fun j hj => by rw [← Addr.add_lit]; exact hc j hj⟩
theorem Strs.sl {w : World} {v : Value} {xs : List (List UInt8)} (h : Strs w v xs) : ∃ a cap, v = .slice a xs.length cap := by
  rcases h with ⟨h, rfl⟩ | ⟨x, cap, hv, _⟩
  · exact ⟨_, _, h⟩
  · exact ⟨_, _, hv⟩
theorem Strs.ofOwn {w : World} {base : Nat} {e : TypeId} {v : Value} {n : Nat} {xs : List (List UInt8)} (h : w.ownsRow base e 1 v n (strC xs)) : Strs w v xs := by
  have hlen : xs.length = n := by have := h.1; simpa [strC] using this
  have hh := h
  rcases h.2 with ⟨hv, hn⟩ | ⟨g, cap, cur, hv, _⟩
  · exact .inl ⟨hv, List.eq_nil_of_length_eq_zero (by omega)⟩
  · refine .inr ⟨⟨g, 0, none⟩, cap, by rw [hlen]; exact hv, fun j hj => ?_⟩
    have hg : v.ownBlock = some g := by rw [hv]; rfl
    exact hh.cells hg _ _ (by simp [strC, List.getElem?_eq_getElem hj])
theorem infoString : (Tryd.prog.info? 9).map (fun i => (i.zero, i.size, i.bytes)) = some (some (.string ByteArray.empty), 1, 16) := by kernel_rfl
theorem ext_mid (s : ByteArray) (f k : Nat) : s.extract f k = textS ((s.data.toList.drop f).take (k - f)) := by
  apply bytes_inj2
  simp [textS, ByteArray.data_extract]
theorem own_geS {w : World} {base : Nat} {e : TypeId} {s : Nat} {v : Value} {n : Nat} {xs : List Value} (h : w.ownsRow base e s v n xs) : ∀ k, v.ownBlock = some k → base ≤ k := fun k hk => (h.lt k hk).1
set_option maxHeartbeats 2000000 in
theorem linesR_any (s : ByteArray) (w : World) (hs : s.size ≤ 20000) :
    Calls Tryd.prog 25 #[.string s] w fun e w' => ∃ v, e = .returned (.tuple #[v, .bool (decide ((cutTo 10 s.data.toList s.size).2 = s.size))]) ∧ Strs w' v (cutTo 10 s.data.toList s.size).1 ∧ Below w.heap.size w w' := by
  obtain ⟨i0, hi, hz0, hz1, hz2⟩ := info_parts infoString
  have hsl : s.data.toList.length = s.size := by simp
  go_enter Tryd.func25, Tryd.ntmps25
  go_wp2
  go_loopw [4, 5, 6] (fun v f i wr => ∃ k : Nat, k ≤ s.size ∧ i = .int .i64 k ∧ f = .int .i64 ((cutTo 10 s.data.toList k).2 : Int) ∧ Hid (wr.ownsRow w.heap.size 9 1 v (cutTo 10 s.data.toList k).1.length (strC (cutTo 10 s.data.toList k).1)) ∧ Below w.heap.size w wr) (fun _ _ i _ => s.size - (intOf i).toNat)
  case atStart => exact ⟨0, Nat.zero_le _, rfl, rfl, World.ownsRow_nil _ _ _ _, Below.refl _ _⟩
  case round =>
    obtain ⟨k, hk, rfl, rfl, hown, hb⟩ := hrel
    have hws := hb.size
    have hf := cutTo_le 10 s.data.toList k
    have hn := cutTo_len 10 s.data.toList k
    by_cases hlt : k < s.size
    · have hlt' : (k : Int) < (s.size : Int) := by omega
      have hbk : s.data.toList[k]?.getD 0 = s[k] := by
        rw [List.getElem?_eq_getElem (by omega)]; rfl
      rcases bool_cases (((s[k]'hlt).toNat : Int) == 10) with hc | hc
      · have he : s.data.toList[k]?.getD 0 = 10 := by
          rw [hbk]
          have := beq_iff_eq.1 hc
          apply UInt8.toNat_inj.1
          simpa using (by omega : (s[k]'hlt).toNat = 10)
        have HN : Hid (cutTo 10 s.data.toList (k + 1) = ((cutTo 10 s.data.toList k).1 ++ [(s.data.toList.drop (cutTo 10 s.data.toList k).2).take (k - (cutTo 10 s.data.toList k).2)], k + 1)) := by show _ = _; rw [cutTo, if_pos he]
        have HX : Hid (s.extract (cutTo 10 s.data.toList k).2 k = textS ((s.data.toList.drop (cutTo 10 s.data.toList k).2).take (k - (cutTo 10 s.data.toList k).2))) := ext_mid _ _ _
        clear hbk he
        generalize (cutTo 10 s.data.toList k).1 = o at HN hown hn
        generalize (cutTo 10 s.data.toList k).2 = f at HN HX hf
        generalize (s.data.toList.drop f).take (k - f) = y at HN HX
        have hf' : (f : Int) ≤ (k : Int) := by omega
        go_wp2_with (first
          | (at_builtin; refine wpList_append_own _ rfl _ _ 54 rfl w.heap.size 9 i0 _ 1 16 Tryd.underlying54 hi hz0 hz1 hz2 rfl (by decide) _ _ _ rfl (hown.out.alloc _) ⟨wr.heap.size, 0, none⟩ 1 1 [.string (s.extract f k)] rfl rfl (cell_one_new _ _ _) (by simp [Value.oneCell']) (by unfold maxLen; omega) (by omega) (by simp; omega) ?_; intro v' w2 hown' hgrow _))
        go_roundw
        case rel => exact ⟨k + 1, by omega, by go_num, by rw [HN.out]; go_num, by have h := hown'; rw [HX.out] at h; show World.ownsRow _ _ _ _ _ _ _; rw [HN.out]; simpa [strC] using h, (hb.alloc hws _).grown hgrow (by simp; omega) (own_geS hown.out)⟩
        case measure => simp [intOf]; omega
      · have he : ¬ s.data.toList[k]?.getD 0 = 10 := by
          rw [hbk]
          intro e
          rw [e] at hc
          simp at hc
        have HN : Hid (cutTo 10 s.data.toList (k + 1) = cutTo 10 s.data.toList k) := by show _ = _; rw [cutTo, if_neg he]
        clear hbk he
        go_wp2
        go_roundw
        case rel => exact ⟨k + 1, by omega, by go_num, by rw [HN.out], by show World.ownsRow _ _ _ _ _ _ _; rw [HN.out]; exact hown.out, hb⟩
        case measure => simp [intOf]; omega
    · have hke : k = s.size := by omega
      have hlt' : ¬ (k : Int) < (s.size : Int) := by omega
      subst hke
      by_cases hq : (cutTo 10 s.data.toList s.size).2 = s.size
      · have hq' : (((cutTo 10 s.data.toList s.size).2 : Int) == (s.size : Int)) = true := beq_iff_eq.2 (by omega)
        have HD : Hid (decide ((cutTo 10 s.data.toList s.size).2 = s.size) = true) := decide_eq_true hq
        go_wp2
        go_ret2
        first
          | exact ⟨_, rfl, Strs.ofOwn hown.out, hb⟩
          | (rw [HD.out]; exact ⟨_, rfl, Strs.ofOwn hown.out, hb⟩)
      · have hq' : (((cutTo 10 s.data.toList s.size).2 : Int) == (s.size : Int)) = false := beq_eq_false_iff_ne.2 (by omega)
        have HD : Hid (decide ((cutTo 10 s.data.toList s.size).2 = s.size) = false) := decide_eq_false hq
        go_wp2
        go_ret2
        first
          | exact ⟨_, rfl, Strs.ofOwn hown.out, hb⟩
          | (rw [HD.out]; exact ⟨_, rfl, Strs.ofOwn hown.out, hb⟩)
def partsL (l : List UInt8) : List (List UInt8) := (cutTo 32 l l.length).1 ++ [cutEnd 32 l]
set_option maxHeartbeats 4000000 in
theorem parts_any (s : ByteArray) (w : World) (hs : s.size ≤ 20000) :
    Calls Tryd.prog 26 #[.string s] w fun e w' => ∃ v, e = .returned v ∧ Strs w' v (partsL s.data.toList) ∧ Below w.heap.size w w' := by
  obtain ⟨i0, hi, hz0, hz1, hz2⟩ := info_parts infoString
  have hsl : s.data.toList.length = s.size := by simp
  have HE : Hid (partsL s.data.toList = (cutTo 32 s.data.toList s.size).1 ++ [(s.data.toList.drop (cutTo 32 s.data.toList s.size).2).take (s.size - (cutTo 32 s.data.toList s.size).2)]) := by
    show _ = _
    unfold partsL cutEnd
    rw [hsl, List.take_of_length_le (by rw [List.length_drop, hsl]; exact Nat.le_refl _)]
  go_enter Tryd.func26, Tryd.ntmps26
  go_wp2
  go_loopw [3, 4, 5] (fun v f i wr => (∃ k : Nat, k ≤ s.size ∧ i = .int .i64 k ∧ f = .int .i64 ((cutTo 32 s.data.toList k).2 : Int) ∧ Hid (wr.ownsRow w.heap.size 9 1 v (cutTo 32 s.data.toList k).1.length (strC (cutTo 32 s.data.toList k).1)) ∧ Below w.heap.size w wr) ∨
      (i = .int .i64 (s.size + 1 : Int) ∧ Hid (Strs wr v (partsL s.data.toList)) ∧ Below w.heap.size w wr)) (fun _ _ i _ => s.size + 1 - (intOf i).toNat)
  case atStart => exact .inl ⟨0, Nat.zero_le _, rfl, rfl, World.ownsRow_nil _ _ _ _, Below.refl _ _⟩
  case round =>
    rcases hrel with ⟨k, hk, rfl, rfl, hown, hb⟩ | ⟨rfl, hS, hb⟩
    · have hws := hb.size
      have hf := cutTo_le 32 s.data.toList k
      have hn := cutTo_len 32 s.data.toList k
      have hk' : (k : Int) ≤ (s.size : Int) := by omega
      by_cases hlt : k < s.size
      · have hlt' : (k : Int) < (s.size : Int) := by omega
        have hne : ((k : Int) == (s.size : Int)) = false := beq_eq_false_iff_ne.2 (by omega)
        have hbk : s.data.toList[k]?.getD 0 = s[k] := by
          rw [List.getElem?_eq_getElem (by omega)]; rfl
        rcases bool_cases (((s[k]'hlt).toNat : Int) == 32) with hc | hc
        · have he : s.data.toList[k]?.getD 0 = 32 := by
            rw [hbk]
            have := beq_iff_eq.1 hc
            apply UInt8.toNat_inj.1
            simpa using (by omega : (s[k]'hlt).toNat = 32)
          have HN : Hid (cutTo 32 s.data.toList (k + 1) = ((cutTo 32 s.data.toList k).1 ++ [(s.data.toList.drop (cutTo 32 s.data.toList k).2).take (k - (cutTo 32 s.data.toList k).2)], k + 1)) := by show _ = _; rw [cutTo, if_pos he]
          have HX : Hid (s.extract (cutTo 32 s.data.toList k).2 k = textS ((s.data.toList.drop (cutTo 32 s.data.toList k).2).take (k - (cutTo 32 s.data.toList k).2))) := ext_mid _ _ _
          clear hbk he HE
          generalize (cutTo 32 s.data.toList k).1 = o at HN hown hn
          generalize (cutTo 32 s.data.toList k).2 = f at HN HX hf
          generalize (s.data.toList.drop f).take (k - f) = y at HN HX
          have hf' : (f : Int) ≤ (k : Int) := by omega
          go_wp2_with (first
            | (at_builtin; refine wpList_append_own _ rfl _ _ 54 rfl w.heap.size 9 i0 _ 1 16 Tryd.underlying54 hi hz0 hz1 hz2 rfl (by decide) _ _ _ rfl (hown.out.alloc _) ⟨wr.heap.size, 0, none⟩ 1 1 [.string (s.extract f k)] rfl rfl (cell_one_new _ _ _) (by simp [Value.oneCell']) (by unfold maxLen; omega) (by omega) (by simp; omega) ?_; intro v' w2 hown' hgrow _))
          go_roundw
          case rel => exact .inl ⟨k + 1, by omega, by go_num, by rw [HN.out]; go_num, by have h := hown'; rw [HX.out] at h; show World.ownsRow _ _ _ _ _ _ _; rw [HN.out]; simpa [strC] using h, (hb.alloc hws _).grown hgrow (by simp; omega) (own_geS hown.out)⟩
          case measure => simp [intOf]; omega
        · have he : ¬ s.data.toList[k]?.getD 0 = 32 := by
            rw [hbk]
            intro e
            rw [e] at hc
            simp at hc
          have HN : Hid (cutTo 32 s.data.toList (k + 1) = cutTo 32 s.data.toList k) := by show _ = _; rw [cutTo, if_neg he]
          clear hbk he HE
          go_wp2
          go_roundw
          case rel => exact .inl ⟨k + 1, by omega, by go_num, by rw [HN.out], by show World.ownsRow _ _ _ _ _ _ _; rw [HN.out]; exact hown.out, hb⟩
          case measure => simp [intOf]; omega
      · have hke : k = s.size := by omega
        subst hke
        have hne : ((s.size : Int) == (s.size : Int)) = true := beq_self_eq_true _
        have HX : Hid (s.extract (cutTo 32 s.data.toList s.size).2 s.size = textS ((s.data.toList.drop (cutTo 32 s.data.toList s.size).2).take (s.size - (cutTo 32 s.data.toList s.size).2))) := ext_mid _ _ _
        generalize (cutTo 32 s.data.toList s.size).1 = o at HE hown hn
        generalize (cutTo 32 s.data.toList s.size).2 = f at HE HX hf
        generalize (s.data.toList.drop f).take (s.size - f) = y at HE HX
        have hf' : (f : Int) ≤ (s.size : Int) := by omega
        go_wp2_with (first
          | (at_builtin; refine wpList_append_own _ rfl _ _ 54 rfl w.heap.size 9 i0 _ 1 16 Tryd.underlying54 hi hz0 hz1 hz2 rfl (by decide) _ _ _ rfl (hown.out.alloc _) ⟨wr.heap.size, 0, none⟩ 1 1 [.string (s.extract f s.size)] rfl rfl (cell_one_new _ _ _) (by simp [Value.oneCell']) (by unfold maxLen; omega) (by omega) (by simp; omega) ?_; intro v' w2 hown' hgrow _))
        go_roundw
        case rel => exact .inr ⟨by go_num, by show Strs _ _ _; rw [HE.out]; refine Strs.ofOwn (base := w.heap.size) (e := 9) (n := o.length + 1) ?_; have h := hown'; rw [HX.out] at h; simpa [strC] using h, (hb.alloc hws _).grown hgrow (by simp; omega) (own_geS hown.out)⟩
        case measure => simp [intOf]
    · have hlt' : ¬ ((s.size : Int) + 1) ≤ (s.size : Int) := by omega
      go_wp2
      go_ret
      exact ⟨_, rfl, hS.out, hb⟩
end Go.Proofs.YthaefajpdncoeaaDoor.Wt
