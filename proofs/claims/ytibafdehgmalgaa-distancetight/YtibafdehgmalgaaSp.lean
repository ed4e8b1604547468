/- The program: spreading from the first states along what a function tells. -/
import Derived.Test.YtibafdehgmalgaaJ13n
import Derived.Test.YtibafdehgmalgaaJ13k
import Derived.Shelf.Abstract
import Derived.Deep.DeepCutAuto
namespace Go.Proofs.Ytibafdehgmalgaa.Wt
open Go.ChangeShapes Go.WideShapes Go.ChangeAt Go.RowKit
open Go.Proofs.Ytibafdehgmalgaa.Pl
set_option linter.unusedVariables false
set_option linter.unusedSimpArgs false
theorem infoIntS : (Try.prog.info? 3).map (fun i => (i.zero, i.size, i.bytes)) = some (some (.int .i64 0), 1, 8) := by kernel_rfl
theorem run_boolsS (n : Nat) (hn : n ≤ 1000) (W : World) : (Instr.makeSlice 39 (.int .i64 (n : Int)) (.int .i64 (n : Int))).run Try.prog W = .ok (.slice (some ⟨W.heap.size, 0, none⟩) n n) (W.alloc (.cells ((List.replicate n false).map Value.bool).toArray 4)) := by
  obtain ⟨i1, hi1, hy0, hy1, hy2⟩ := info_parts infoBool
  have h := run_make (P := Try.prog) W 39 4 i1 _ Try.underlying39 hi1 hy0 .i64 .i64 n n (by omega) (by omega) (by rw [hy2]; omega) (by omega)
  rw [hy1, Int.toNat_natCast, made_bools] at h
  exact h
/-- What a function tells of each state: where it leads to. -/
def AskL (g : Nat) (lb : Array Value) (L : Nat → List Int) (n : Nat) (w : World) (r : Option Nat) : Prop :=
  (∀ ar W, (callFunc g ar).run Try.prog W = .ok (.enter g ar) W) ∧
  ∀ q, q < n → ∀ W : World, w.grownBy W r → Calls Try.prog g (#[.int .i64 (q : Int)] ++ lb) W fun e w' => ∃ v', e = .returned v' ∧ Nums w' v' (L q) ∧ Below W.heap.size W w'
set_option maxRecDepth 100000 in
set_option maxHeartbeats 3200000 in
theorem spread_any (n : Nat) (v : Value) (F : List Int) (g : Nat) (lb : Array Value) (L : Nat → List Int) (base : Nat) (w : World) (hF : w.ownsRow base 3 1 v F.length (F.flatMap encI1)) (hbase : base ≤ w.heap.size) (h60 : n ≤ 60) (hFn : ∀ x ∈ F, 0 ≤ x ∧ x < (n : Int)) (hFl : F.length ≤ 60) (hg : AskL g lb L n w v.ownBlock) (hLn : ∀ q, q < n → ∀ y ∈ L q, 0 ≤ y ∧ y < (n : Int)) (hLl : ∀ q, q < n → (L q).length ≤ 400) :
    Calls Try.prog 33 #[.int .i64 (n : Int), v, .func (.func g) #[] lb] w fun e w' => ∃ v', e = .returned v' ∧ (∃ bs, Bools w' v' bs ∧ Least (SpreadC n F L) n bs) ∧ w.grownBy w' v.ownBlock := by
  obtain ⟨i1, hi1, hy0, hy1, hy2⟩ := info_parts infoIntS
  obtain ⟨eg, hg⟩ := hg
  have HG : Hid (∀ q, q < n → ∀ W : World, w.grownBy W v.ownBlock → Calls Try.prog g (#[.int .i64 (q : Int)] ++ lb) W fun e w' => ∃ v', e = .returned v' ∧ Nums w' v' (L q) ∧ Below W.heap.size W w') := hg
  have HLN : Hid (∀ q, q < n → ∀ y ∈ L q, 0 ≤ y ∧ y < (n : Int)) := hLn
  have HLL : Hid (∀ q, q < n → (L q).length ≤ 400) := hLl
  have HF : Hid (w.ownsRow base 3 1 v F.length (F.flatMap encI1)) := hF
  have HD0 : Hid (Dfs n 400 30000 F L (List.replicate n false) F) := Dfs.start hFn (by omega)
  have hmk := run_boolsS n (by omega)
  have hnot : ∀ (x : Bool) (w : World), (Op.unary .not (.bool x)).run Try.prog w = .ok (.bool (!x)) w := fun _ _ => rfl
  clear hF hg hLn hLl hFn
  generalize hr : v.ownBlock = r at *
  have HNR : Hid (Near w r v) := .inl hr
  clear hr
  go_enter Try.func33, Try.ntmps33
  go_wp2
  go_loopw [8] (fun s8 wr => ∃ (bs : List Bool) (ws : List Int) (vo : Value), vo = s8 ∧ Hid (Dfs n 400 30000 F L bs ws) ∧ Hid (wr.ownsRow base 3 1 vo ws.length (ws.flatMap encI1)) ∧ Hid (Near w r vo) ∧ Hid (Blk wr w.heap.size (bs.map Value.bool).toArray 4) ∧ Hid (w.grownBy wr r)) (fun s8 wr => falses wr w.heap.size * 401 + lenV s8)
  case atStart => exact ⟨_, F, v, rfl, HD0, HF.out.alloc _, HNR, by (show Blk _ _ _ _); rw [show (List.map Value.bool (List.replicate n false)).toArray = Array.replicate n (Value.bool false) from by simp]; exact Blk.made _ _ _, gNew ((Below.refl _ _).alloc (Nat.le_refl _) _)⟩
  case round =>
    obtain ⟨bs, ws, vo, rfl, hd, hown, hnear, hblk, hgr⟩ := hrel
    obtain ⟨a, cap, hvo⟩ := own_sl hown.out
    subst hvo
    by_cases hz : ws.length = 0
    · have hwz : ws = [] := List.eq_nil_of_length_eq_zero hz
      have HLS : Hid (Least (SpreadC n F L) n bs) := by have h9 := hd.out; rw [hwz] at h9; exact h9.done
      have HBL : Hid (Bools wr (.slice (some ⟨w.heap.size, 0, none⟩) n n) bs) := by have h9 := bools_block (cap := n) hblk.out; rw [hd.out.len] at h9; exact h9
      have hz' : ((ws.length : Nat) : Int) = 0 := by omega
      clear hwz
      go_wp2
      go_ret
      exact ⟨_, rfl, ⟨bs, HBL.out, HLS.out⟩, hgr.out⟩
    · obtain ⟨k, hk⟩ : ∃ k, ws.length = k + 1 := ⟨ws.length - 1, by omega⟩
      obtain ⟨gb, hga, hnc, hcut⟩ := own_cut (k := k) hown.out (by omega)
      subst hga
      have hin := hd.out.inn (el ws k) (el_mem (by omega))
      have c0 := own_num hown.out (j := k) (by omega)
      obtain ⟨q, hq⟩ : ∃ q : Nat, el ws k = (q : Int) := ⟨(el ws k).toNat, by omega⟩
      rw [hq] at hin c0
      have hqn : q < n := by omega
      have hroom := hd.out.room
      rw [hk] at hroom
      have HCUT : Hid (wr.ownsRow base 3 1 (.slice (some ⟨gb, 0, none⟩) k cap) k ((ws.take k).flatMap encI1)) := hcut
      have HNC : Hid (Near w r (.slice (some ⟨gb, 0, none⟩) k cap)) := hnear.out
      have HFL : Hid (falses wr w.heap.size = bs.count false) := falses_blk hblk.out
      have HTK : Hid ((ws.take k).length = k) := by show _ = _; rw [List.length_take]; omega
      have y0 := bool_cell hblk.out (j := q) (by rw [hd.out.len]; exact hqn)
      have y1 := hblk.out.fz q
      have k1 : (0 : Int) < (k : Int) + 1 := by omega
      have k2 : (0 : Int) ≤ (k : Int) := by omega
      have k3 : (k : Int) < (k : Int) + 1 := by omega
      have k4 : (k : Int) ≤ (cap : Int) := by omega
      have k5 : IntKind.i64.wrap (k : Int) = (k : Int) := wrapI (by omega) (by omega)
      have q0 : (0 : Int) ≤ (q : Int) := by omega
      have q1 : (q : Int) < (n : Int) := by omega
      rcases bool_cases' (el bs q) with hf | hf
      · have HD2 : Hid (Dfs n 400 30000 F L bs (ws.take k)) := hd.out.skip hk (by rw [hq]; exact hf)
        rw [hf] at y0
        rw [hk]
        clear hf hown hnear hcut hd hroom hz
        go_wp2
        go_roundw
        case rel => exact ⟨bs, ws.take k, _, rfl, HD2, by rw [HTK.out]; exact HCUT, HNC, hblk, hgr⟩
        case measure => simp [lenV]
      · have HD2 : Hid (Dfs n 400 30000 F L (bs.set q true) (ws.take k ++ L q)) := hd.out.step hk hq hf (HLN.out q hqn) (HLL.out q hqn)
        have HCS : Hid ((bs.set q true).count false + 1 = bs.count false) := count_set (by rw [hd.out.len]; exact hqn) hf
        rw [hf] at y0
        rw [hk]
        have hgne : some w.heap.size ≠ Value.ownBlock (.slice (some ⟨gb, 0, none⟩) k cap) := own_ne hcut hblk.out (by decide)
        have HB2 : Hid (Blk (wr.setCell ⟨w.heap.size, q, none⟩ (.bool true)) w.heap.size ((bs.set q true).map Value.bool).toArray 4) := by have h9 := hblk.out.set q (.bool true); rw [set_bool] at h9; exact h9
        have HG2 : Hid (w.grownBy (wr.setCell ⟨w.heap.size, q, none⟩ (.bool true)) r) := gSetNew hgr.out (Nat.le_refl _) q _
        have HO2 : Hid ((wr.setCell ⟨w.heap.size, q, none⟩ (.bool true)).ownsRow base 3 1 (.slice (some ⟨gb, 0, none⟩) k cap) k ((ws.take k).flatMap encI1)) := hcut.kept (gSet wr w.heap.size q _) (.inr (Ne.symm hgne))
        have hL4 := HLL.out q hqn
        have HC1 : Hid (Calls Try.prog g (#[.int .i64 (q : Int)] ++ lb) (wr.setCell ⟨w.heap.size, q, none⟩ (.bool true)) fun e w' => ∃ v', e = .returned v' ∧ Nums w' v' (L q) ∧ Below (wr.setCell ⟨w.heap.size, q, none⟩ (.bool true)).heap.size (wr.setCell ⟨w.heap.size, q, none⟩ (.bool true)) w') := HG.out q hqn _ HG2.out
        clear hf hown hnear hcut hd hblk hgr hz
        go_wp2_with (first
          | (go_at_fn g; refine HC1.out.mono ?_; rintro e w' ⟨v', rfl, hnum, hb'⟩; have HNUM : Hid (Nums w' v' (L q)) := hnum; have HB3 : Hid (Below _ _ w') := hb'; clear hnum hb'; have HO3 : Hid (w'.ownsRow base 3 1 (.slice (some ⟨gb, 0, none⟩) k cap) k ((ws.take k).flatMap encI1)) := ownBelow HO2.out HB3.out; have HG3 : Hid (w.grownBy w' r) := gTrans HG2.out (gNew HB3.out); have HBK3 : Hid (Blk w' w.heap.size ((bs.set q true).map Value.bool).toArray 4) := HB2.out.below HB3.out HB2.out.lt)
          | (at_builtin; refine wpList_append_spot encI1_len (by decide) encI1_one rfl _ _ 26 rfl base 3 i1 _ 8 Try.underlying26 hi1 hy0 hy1 hy2 rfl _ k ((ws.take k).flatMap encI1) rfl HO3.out _ (L q) rfl HNUM.out (by unfold maxLen; omega) (by omega) (Nat.le_trans hbase HG3.out.size) ?_; intro v4 w4 ho4 hg4 hn4; have HO4 : Hid (w4.ownsRow base 3 1 v4 (ws.take k ++ L q).length ((ws.take k ++ L q).flatMap encI1)) := (by show World.ownsRow _ _ _ _ _ _ _; rw [List.length_append, HTK.out, List.flatMap_append]; exact ho4); have HN4 : Hid (Near w r v4) := HNC.out.next HG3.out hn4; have HG4 : Hid (w.grownBy w4 r) := HNC.out.grown HG3.out hg4; have HB4 : Hid (Blk w4 w.heap.size ((bs.set q true).map Value.bool).toArray 4) := HBK3.out.grown hg4 hgne; have hlv : lenV v4 = k + (L q).length := (by obtain ⟨a9, c9, h9⟩ := own_sl ho4; rw [h9]; rfl); clear ho4 hg4 hn4))
        go_roundw
        case rel => exact ⟨bs.set q true, ws.take k ++ L q, _, rfl, HD2, HO4, HN4, HB4, HG4⟩
        case measure =>
          have h1 := falses_blk HB4.out
          have h2 := HCS.out
          have h3 := HFL.out
          rw [h1, h3, ← h2]
          simp [hlv]
          simp only [lenV]
          omega
end Go.Proofs.Ytibafdehgmalgaa.Wt
