/- The tables that the keeping statements make out of numbers. -/
import Derived.Test.YtljpbkkofalinaaDoorPlainB
import Derived.Test.YtljpbkkofalinaaDoorNm
import Derived.Test.YtljpbkkofalinaaDoorRw
import Derived.Test.YtljpbkkofalinaaDoorKq
import Derived.Laws.IdiomStrings
namespace Go.Proofs.YtljpbkkofalinaaDoor.Wt
open Go.ChangeShapes Go.WideShapes Go.ChangeAt Go.RowKit
open Go.Proofs.YtljpbkkofalinaaDoor.Pl
set_option linter.unusedVariables false
def qOf (zs : List Int) (i : Nat) : Nat := (pk (zs[i]?.getD 0) 10).toNat
theorem qOf_lt (zs : List Int) (i : Nat) : qOf zs i < 10 := by have := pk_bd (zs[i]?.getD 0) 10 (by decide); unfold qOf; omega
theorem qOf_eq (zs : List Int) (i : Nat) : pk (zs[i]?.getD 0) 10 = (qOf zs i : Int) := by have := pk_bd (zs[i]?.getD 0) 10 (by decide); unfold qOf; omega
def tabOf (zs : List Int) : List Nm := tabL (qOf zs) (min zs.length 100)
theorem Blk0 (wr : World) (k q : Nat) :
    (wr.alloc (.cells #[.int .u8 (97 + (k : Int) % 26), .int .u8 (48 + (k : Int) / 26), .int .u8 (97 + (q : Int))] 5)).cell? ((⟨wr.heap.size, 0, none⟩ : Addr).add 0) = some (.int .u8 (97 + (k : Int) % 26)) ∧
    (wr.alloc (.cells #[.int .u8 (97 + (k : Int) % 26), .int .u8 (48 + (k : Int) / 26), .int .u8 (97 + (q : Int))] 5)).cell? ((⟨wr.heap.size, 0, none⟩ : Addr).add 1) = some (.int .u8 (48 + (k : Int) / 26)) ∧
    (wr.alloc (.cells #[.int .u8 (97 + (k : Int) % 26), .int .u8 (48 + (k : Int) / 26), .int .u8 (97 + (q : Int))] 5)).cell? ((⟨wr.heap.size, 0, none⟩ : Addr).add 2) = some (.int .u8 (97 + (q : Int))) := by
  refine ⟨?_, ?_, ?_⟩ <;> simp [Addr.add]
theorem run_tab (k q : Nat) (hk : k < 100) (hq : q < 10) (wr : World) :
    (convert 39 9 (.slice (some ⟨wr.heap.size, 0, none⟩) 3 3)).run Tryd.prog (wr.alloc (.cells #[.int .u8 (97 + (k : Int) % 26), .int .u8 (48 + (k : Int) / 26), .int .u8 (97 + (q : Int))] 5)) =
      .ok (.string (tabT k q)) (wr.alloc (.cells #[.int .u8 (97 + (k : Int) % 26), .int .u8 (48 + (k : Int) / 26), .int .u8 (97 + (q : Int))] 5)) := by
  refine run_convert_bytes_back _ _ _ 5 ⟨wr.heap.size, 0, none⟩ 3 [UInt8.ofNat (97 + k % 26), UInt8.ofNat (48 + k / 26), UInt8.ofNat (97 + q)] Tryd.underlying39 Tryd.underlying5 Tryd.underlying9 ?_
  intro j hj
  have hb := Blk0 wr k q
  match j, hj with
  | 0, _ => rw [hb.1]; simp; omega
  | 1, _ => rw [hb.2.1]; simp; omega
  | 2, _ => rw [hb.2.2]; simp; omega
theorem tab_one (W : World) (k q c : Nat) (hc : c = W.heap.size) :
    Nms (W.alloc (.cells #[.string (tabT k q), .int .i64 (1 + 10 * (k : Int) % 1000 + (q : Int) % 10)] 36)) (.slice (some ⟨c, 0, none⟩) 1 1) [tabN k q] := by
  subst hc
  refine .inr ⟨⟨W.heap.size, 0, none⟩, 1, rfl, fun j hj => ?_⟩
  obtain rfl : j = 0 := by simpa using hj
  simp [Addr.add, nm, tabN]
set_option maxHeartbeats 1000000 in
theorem table_some (b off cap : Nat) (zs : List Int) (w : World) (hl : zs.length ≤ maxLen) (hz0 : 0 < zs.length)
    (hc : ∀ j, j < zs.length → w.cell? ⟨b, off + j, none⟩ = some (.int .i64 (zs[j]?.getD 0))) (hwf : ∀ n ∈ zs, (Lit.int .i64 n).wf = true) :
    Calls Tryd.prog 12 #[.slice (some ⟨b, off, none⟩) zs.length cap] w fun e w' => ∃ v, e = .returned v ∧ Nms w' v (tabOf zs) ∧ Below w.heap.size w w' := by
  unfold maxLen at hl
  obtain ⟨i0, hi, hi0, hi1, hi2⟩ := info_parts infoName
  have HM : Hid (min zs.length 100 = (min zs.length 100)) := rfl
  have HW : Hid (∀ k, k < zs.length → (Lit.int .i64 (zs[k]?.getD 0)).wf = true) := fun k hk => by rw [List.getElem?_eq_getElem hk]; exact hwf _ (List.getElem_mem _)
  have HC : Hid (∀ j, j < zs.length → w.cell? ⟨b, off + j, none⟩ = some (.int .i64 (zs[j]?.getD 0))) := hc
  have HE : Hid (∀ wr v, wr.ownsRow w.heap.size 36 2 v (min zs.length 100) (cellsOfNames (tabL (qOf zs) (min zs.length 100))) → Nms wr v (tabOf zs)) := fun wr v h => Nms.ofOwn h
  have hbl : b < w.heap.size := World.block_lt_of_cell? _ _ (hc 0 hz0)
  clear hc hwf HM
  generalize hn : zs.length = n at *
  generalize hmn : min n 100 = m at *
  go_enter Tryd.func12, Tryd.ntmps12
  go_wp2
  go_loopw [3, 4] (fun v i wr => ∃ k : Nat, k ≤ m ∧ i = .int .i64 k ∧ Hid (wr.ownsRow w.heap.size 36 2 v k (cellsOfNames (tabL (qOf zs) k))) ∧ Below w.heap.size w wr) (fun _ i _ => m - (intOf i).toNat)
  case atStart => exact ⟨0, Nat.zero_le _, rfl, World.ownsRow_nil _ _ _ _, Below.refl _ _⟩
  case round =>
    obtain ⟨k, hk, rfl, hown, hb⟩ := hrel
    have hws := hb.size
    by_cases hlt : k < m
    · have hkn : k < n := by omega
      have hkn' : (k : Int) < (n : Int) := by omega
      have h100 : (k : Int) < 100 := by omega
      have g := (hb.cell (p := ⟨b, off + k, none⟩) hbl).trans (HC.out k hkn)
      have hz := HW.out k hkn
      have HP : Hid (pk (zs[k]?.getD 0) 10 = (qOf zs k : Int)) := qOf_eq zs k
      have hq := qOf_lt zs k
      have HN : Hid (tabL (qOf zs) (k + 1) = tabL (qOf zs) k ++ [tabN k (qOf zs k)]) := tabL_succ _ _
      have HL : Hid ((tabL (qOf zs) k).length = k) := tabL_length _ _
      have hcv := run_tab k (qOf zs k) (by omega) hq wr
      generalize zs[k]?.getD 0 = z at g hz HP
      generalize qOf zs k = q at HP hq HN hcv
      have hq' : (q : Int) < 10 := by omega
      have HX : Hid (Nms ((wr.alloc (.cells #[.int .u8 (97 + (k : Int) % 26), .int .u8 (48 + (k : Int) / 26), .int .u8 (97 + (q : Int))] 5)).alloc (.cells #[.string (tabT k q), .int .i64 (1 + 10 * (k : Int) % 1000 + (q : Int) % 10)] 36)) (.slice (some ⟨wr.heap.size + 1, 0, none⟩) 1 1) [tabN k q]) := tab_one _ _ _ _ (by simp)
      have HO : Hid (∀ v, wr.ownsRow w.heap.size 36 2 v k (cellsOfNames (tabL (qOf zs) k)) → World.ownsRow ((wr.alloc (.cells #[.int .u8 (97 + (k : Int) % 26), .int .u8 (48 + (k : Int) / 26), .int .u8 (97 + (q : Int))] 5)).alloc (.cells #[.string (tabT k q), .int .i64 (1 + 10 * (k : Int) % 1000 + (q : Int) % 10)] 36)) w.heap.size 36 2 v (tabL (qOf zs) k).length (cellsOfNames (tabL (qOf zs) k))) := fun v h => by rw [HL.out]; exact (h.alloc _).alloc _
      have HB : Hid (Below w.heap.size w ((wr.alloc (.cells #[.int .u8 (97 + (k : Int) % 26), .int .u8 (48 + (k : Int) / 26), .int .u8 (97 + (q : Int))] 5)).alloc (.cells #[.string (tabT k q), .int .i64 (1 + 10 * (k : Int) % 1000 + (q : Int) % 10)] 36))) := (hb.alloc hws _).alloc (by simp; omega) _
      have HS : Hid (w.heap.size ≤ (((wr.alloc (.cells #[.int .u8 (97 + (k : Int) % 26), .int .u8 (48 + (k : Int) / 26), .int .u8 (97 + (q : Int))] 5)).alloc (.cells #[.string (tabT k q), .int .i64 (1 + 10 * (k : Int) % 1000 + (q : Int) % 10)] 36))).heap.size) := by show _ ≤ _; simp; omega
      have HV : Hid ((tabL (qOf zs) k).length + [tabN k q].length ≤ maxLen) := by show _ ≤ _; rw [HL.out]; unfold maxLen; simp; omega
      have HY : Hid (((tabL (qOf zs) k).length + [tabN k q].length) * 24 ≤ 140737488355328) := by show _ ≤ _; rw [HL.out]; simp; omega
      go_wp2_with (first
        | (go_at_call 24; refine (picked_any _ _ _ hz (by omega) (by omega)).mono ?_; rw [HP.out]; rintro e w' ⟨rfl, rfl⟩)
        | (at_builtin; refine wpList_append_names rfl _ _ 22 rfl w.heap.size 36 i0 _ 24 Tryd.underlying22 hi hi0 hi1 hi2 rfl _ (tabL (qOf zs) k) rfl (HO.out _ hown.out) _ [tabN k q] rfl HX.out HV.out HY.out HS.out ?_; intro v' w' hown' hb'))
      go_roundw
      case rel => exact ⟨k + 1, by omega, by go_num, by have h := hown'; rw [HL.out, ← HN.out] at h; exact h, HB.out.trans hb'⟩
      case measure => simp [intOf]; omega
    · have hke : k = m := by omega
      have HQ : Hid (∀ v, wr.ownsRow w.heap.size 36 2 v k (cellsOfNames (tabL (qOf zs) k)) → Nms wr v (tabOf zs)) := fun v h => HE.out wr v (by rw [hke] at h; exact h)
      by_cases hkn : (k : Int) < (n : Int)
      · have h100 : ¬ (k : Int) < 100 := by omega
        clear hke
        go_wp2
        go_ret
        exact ⟨_, rfl, HQ.out _ hown.out, hb⟩
      · clear hke
        go_wp2
        go_ret
        exact ⟨_, rfl, HQ.out _ hown.out, hb⟩
theorem table_any (v : Value) (zs : List Int) (w : World) (h : Ints .i64 w v zs) (hm : zs.length ≤ maxLen) (hwf : ∀ n ∈ zs, (Lit.int .i64 n).wf = true) :
    Calls Tryd.prog 12 #[v] w fun e w' => ∃ v, e = .returned v ∧ Nms w' v (tabOf zs) ∧ Below w.heap.size w w' := by
  by_cases hz : 0 < zs.length
  · obtain ⟨b, off, cap, rfl, hc⟩ := h.plain hz
    exact table_some b off cap zs w hm hz hc hwf
  · obtain rfl : zs = [] := List.eq_nil_of_length_eq_zero (by omega)
    obtain ⟨a, cap, rfl⟩ := h.empty
    go_enter Tryd.func12, Tryd.ntmps12
    go_wp2
    refine wp_loop_rounds 1 ?_; rw [rounds_succ]
    go_wp2
    go_ret
    exact ⟨_, rfl, .inl ⟨rfl, rfl⟩, Below.refl _ _⟩
theorem tabOf_right (zs : List Int) : faultR (tabOf zs) = 0 := tab_right _ _ (by omega) (qOf_lt zs)
end Go.Proofs.YtljpbkkofalinaaDoor.Wt
