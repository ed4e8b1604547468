/- The reference: numbers as bytes. -/
import Derived.Test.YtbbjpdadickilaaBy
import Derived.Test.YtbbjpdadickilaaPlainBy
import Derived.Test.YtbbjpdadickilaaSg
namespace Go.Proofs.Ytbbjpdadickilaa.Wt
open Go.ChangeShapes Go.WideShapes Go.ChangeAt Go.RowKit
open Go.Proofs.Ytbbjpdadickilaa.Pl
set_option linter.unusedVariables false
set_option linter.unusedSimpArgs false
theorem joined_any (v : Value) (l : List Int) (w : World) (h : Bys w v l) (hb : bytesB l) (f k : Nat) (hf : f + k ≤ l.length) (hk : k ≤ 4) (hl : l.length ≤ 100000) (r : Int) (hr : joinL ((l.drop f).take k) = r) :
    Calls Try.prog 27 #[v, .int .i64 f, .int .i64 k] w fun e w' => e = .returned (.int .i64 r) ∧ w = w' := by
  subst hr
  obtain ⟨a, cap, rfl, hc⟩ := h.get
  have HC : Hid (∀ j, j < l.length → ∃ b off, a = some ⟨b, off, none⟩ ∧ b < w.heap.size ∧ w.cell? ⟨b, off + j, none⟩ = some (.int .u8 (el l j))) := hc
  have HB : Hid (bytesB l) := hb
  have HD : Hid (∀ i, i < k → ((l.drop f).take (i + 1)) = (l.drop f).take i ++ [el l (f + i)]) := fun i hi => by
    rw [take_el (by rw [List.length_drop]; omega)]
    congr 1
    simp [el]
  have HR : Hid (∀ i, i ≤ k → 0 ≤ joinL ((l.drop f).take i) ∧ joinL ((l.drop f).take i) < 4294967296) := fun i hi => by
    have h1 := joinL_range _ (bytes_take (bytes_drop hb f) i)
    have h2 := pow256 (k := ((l.drop f).take i).length) (by rw [List.length_take]; omega)
    omega
  clear hc hb h
  generalize hn : l.length = n at *
  go_enter Try.func27, Try.ntmps27
  go_wp2
  go_loop [7, 8] (fun x i => ∃ c : Nat, c ≤ k ∧ i = .int .i64 c ∧ x = .int .i64 (joinL ((l.drop f).take c))) (fun _ i => k - (intOf i).toNat)
  case atStart => exact ⟨0, Nat.zero_le _, rfl, rfl⟩
  case round =>
    obtain ⟨c, hck, rfl, rfl⟩ := hrel
    by_cases hlt : c < k
    · obtain ⟨b, off, rfl, hbl, g⟩ := HC.out (f + c) (by omega)
      have hx := HB.out (el l (f + c)) (el_mem (by omega))
      have HS : Hid (joinL ((l.drop f).take (c + 1)) = 256 * joinL ((l.drop f).take c) + el l (f + c)) := by show _ = _; rw [HD.out c hlt, joinL_snoc]
      have b1 := HR.out c (by omega)
      have b2 := HR.out (c + 1) (by omega)
      rw [HS.out] at b2
      generalize joinL ((l.drop f).take c) = m at *
      generalize el l (f + c) = x at *
      have w1 : IntKind.i64.wrap ((f : Int) + (c : Int)) = ((f + c : Nat) : Int) := by rw [wrapI (by omega) (by omega)]; omega
      have k0 : (0 : Int) ≤ ((f + c : Nat) : Int) := by omega
      have k1 : ((f + c : Nat) : Int) < (n : Int) := by omega
      have hlt' : (c : Int) < (k : Int) := by omega
      go_wp2
      go_round
      case rel => exact ⟨c + 1, by omega, by go_num, by rw [HS.out]⟩
      case measure => simp [intOf]; omega
    · have hnl : ¬ (c : Int) < (k : Int) := by omega
      obtain rfl : c = k := by omega
      go_wp2
      go_ret
      exact ⟨rfl, rfl⟩
theorem split_any (n : Int) (k : Nat) (w : World) (h0 : 0 ≤ n) (hn : n < 4294967296) (hk : k ≤ 8) :
    Calls Try.prog 22 #[.int .i64 n, .int .i64 k] w fun e w' => e = .returned (.slice (some ⟨w.heap.size, 0, none⟩) k k) ∧ Blk w' w.heap.size ((splitL n k).map (Value.int .u8)).toArray 5 ∧ Below w.heap.size w w' := by
  have hmk := run_bys k (by omega)
  have HN : Hid (∀ c, 0 ≤ n / 256 ^ c ∧ n / 256 ^ c < 4294967296) := fun c => by
    have hP : (0 : Int) < 256 ^ c := Int.pow_pos (by omega)
    refine ⟨Int.ediv_nonneg h0 (by omega), ?_⟩
    have := Int.ediv_le_self (256 ^ c) h0
    omega
  go_enter Try.func22, Try.ntmps22
  go_wp2
  go_loopw [0, 6] (fun x i wr => ∃ (c : Nat) (y : Int) (ws : List Int), c ≤ k ∧ x = .int .i64 (n / 256 ^ (k - c)) ∧ i = .int .i64 y ∧ y + 1 = (c : Int) ∧ Hid (ws.length = k ∧ ∀ j, j < k → c ≤ j → el ws j = n / 256 ^ (k - 1 - j) % 256) ∧ Hid (Blk wr w.heap.size (ws.map (Value.int .u8)).toArray 5) ∧ Hid (Below w.heap.size w wr)) (fun _ i _ => (intOf i + 1).toNat)
  case atStart => exact ⟨k, (k : Int) - 1, List.replicate k 0, Nat.le_refl _, by simp, by go_num, by omega, ⟨by simp, fun j h1 h2 => by omega⟩, by (show Blk _ _ _ _); rw [show (List.map (Value.int .u8) (List.replicate k 0)).toArray = Array.replicate k (.int .u8 0) from by simp]; exact Blk.made w _ _, (Below.refl _ _).alloc (Nat.le_refl _) _⟩
  case round =>
    obtain ⟨c, y, ws, hc, rfl, rfl, hy, hws, hbx, hb⟩ := hrel
    by_cases hlt : 0 < c
    · obtain ⟨d, rfl⟩ : ∃ d, c = d + 1 := ⟨c - 1, by omega⟩
      obtain rfl : y = (d : Int) := by omega
      have hx := HN.out (k - (d + 1))
      have HE : Hid (n / 256 ^ (k - 1 - d) % 256 = n / 256 ^ (k - (d + 1)) % 256 ∧ n / 256 ^ (k - d) = n / 256 ^ (k - (d + 1)) / 256) := by
        refine ⟨by rw [show k - 1 - d = k - (d + 1) from by omega], ?_⟩
        rw [show k - d = k - (d + 1) + 1 from by omega, Int.pow_succ, Int.ediv_ediv_of_nonneg (Int.pow_nonneg (by omega))]
      generalize n / 256 ^ (k - (d + 1)) = x at *
      have hm : Int.tmod x 256 = x % 256 := Int.tmod_eq_emod_of_nonneg (by omega)
      have hd : Int.tdiv x 256 = x / 256 := Int.tdiv_eq_ediv_of_nonneg (by omega)
      have hg : (0 : Int) ≤ (d : Int) := by omega
      have hg2 : (d : Int) < (k : Int) := by omega
      have dc := by_cell hbx.out (j := d) (by rw [hws.out.1]; omega)
      have df := hbx.out.fz d
      go_wp2
      go_roundw
      case rel => exact ⟨d, (d : Int) - 1, ws.set d (x % 256), by omega, by rw [HE.out.2], by go_num, by omega, ⟨by simp [hws.out.1], fun j h1 h2 => by
        rw [el_setN (by rw [hws.out.1]; omega)]
        by_cases hj : j = d
        · subst hj; rw [if_pos rfl, HE.out.1]
        · rw [if_neg hj]; exact hws.out.2 j h1 (by omega)⟩, by rw [← set_by]; exact hbx.out.set d _, hb.out.setCell (p := ⟨w.heap.size, d, none⟩) (Nat.le_refl _) _⟩
      case measure => simp [intOf]
    · obtain rfl : c = 0 := by omega
      obtain rfl : y = -1 := by omega
      have HW : Hid (ws = splitL n k) := el_ext (by rw [hws.out.1, splitL_len]) (fun j hj => by rw [hws.out.1] at hj; rw [splitL_el n hj]; exact hws.out.2 j hj (by omega))
      go_wp2
      go_ret
      exact ⟨rfl, by rw [← HW.out]; exact hbx.out, hb.out⟩
end Go.Proofs.Ytbbjpdadickilaa.Wt
