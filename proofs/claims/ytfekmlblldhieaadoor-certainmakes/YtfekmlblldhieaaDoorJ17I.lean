/- The program's core.Bits where the machine is not right. A machine that is full. certain.Make: what the program answers, at every machine (where the table of powers of ten that the standard library reads is as its text lays it). -/
import Derived.Test.YtfekmlblldhieaaDoorJ17l
import Derived.Test.YtfekmlblldhieaaDoorJ17C
import Derived.Test.YtfekmlblldhieaaDoorJ17f
import Derived.Test.YtfekmlblldhieaaDoorJ17H
import Derived.Test.YtfekmlblldhieaaDoorMcX
import Derived.Deep.RegionWith
namespace Go.Proofs.YtfekmlblldhieaaDoor.Wt
open Go.ChangeShapes Go.WideShapes Go.ChangeAt Go.RowKit
open Go.Proofs.YtfekmlblldhieaaDoor.Pl
set_option linter.unusedVariables false
set_option linter.unusedSimpArgs false
theorem bits_bad (v : Value) (m : Mc) (w : World) (h : Mach w v m) (hok : okM m) (r : Int) (hr : faultM m = r) (hr0 : ¬ r = 0) :
    Calls Tryd.prog 11 #[v] w fun e w' => e = .returned (.tuple #[.agg #[.bool false, .bool false, .bool false, .bool false, .bool false], .int .i64 r]) ∧ Below w.heap.size w w' := by
  obtain ⟨z, l⟩ := m
  obtain ⟨vs, rfl, hS⟩ := h
  obtain ⟨a, cap, rfl⟩ := hS.sl
  have HM : Hid (Mach w (.agg #[.int .i64 z, .slice a l.length cap]) (z, l)) := ⟨_, rfl, hS⟩
  have HK : Hid (okM (z, l)) := hok
  have HR : Hid (faultM (z, l) = r) := hr
  have hne : (r != 0) = true := by simpa using hr0
  have hl := hok.1
  simp only at hl ⊢
  clear hS hok hr
  go_enter Tryd.func11, Tryd.ntmps11
  go_wp2_with (first
      | (go_at_call 25; (with_reducible refine (coreCheck_any _ (z, l) _ (HM.out.later (B := w.heap.size) (by go_grown) (Nat.le_refl _)) HK.out _ HR.out).mono ?_); rintro e w1 ⟨rfl, hb⟩; obtain ⟨s1, k0, k1, hb1⟩ := boxed2 hb (by simp); have HB1 : Hid (Below w.heap.size w w1) := hb1; have e0 := k1.cell 0 (v := .bool false) rfl; have e1 := k1.cell 1 (v := .bool false) rfl; have e2 := k1.cell 2 (v := .bool false) rfl; have e3 := k1.cell 3 (v := .bool false) rfl; have e4 := k1.cell 4 (v := .bool false) rfl; have f0 := k1.fz 0; have f1 := k1.fz 1; have f2 := k1.fz 2; have f3 := k1.fz 3; have f4 := k1.fz 4; clear hb hb1 k0 k1))
  exact bodyPost_ret (v := .tuple #[.agg #[.bool false, .bool false, .bool false, .bool false, .bool false], .int .i64 r]) (by simp [results, Tryd.results11, go_sem, *]) rfl ⟨rfl, by (have h := HB1.out); go_grown⟩
end Go.Proofs.YtfekmlblldhieaaDoor.Wt
namespace Go.Proofs.YtfekmlblldhieaaDoor.Wt
open Go.Proofs.YtfekmlblldhieaaDoor.Pl
set_option linter.unusedVariables false
theorem empB_full {l : List St} (h : empB l = false) : l.all (fun s => s.2.all fullA) = true := by
  unfold empB at h
  rw [List.any_eq_false] at h
  rw [List.all_eq_true]
  intro s hs
  have h9 := h s hs
  rw [Bool.not_eq_true, List.any_eq_false] at h9
  rw [List.all_eq_true]
  intro a ha
  have h8 := h9 a ha
  unfold fullA
  revert h8
  cases (decide (a.1 = 0) && decide (a.2.1 = 0)) <;> simp
end Go.Proofs.YtfekmlblldhieaaDoor.Wt
namespace Go.Proofs.YtfekmlblldhieaaDoor.Wt
open Go.ChangeShapes Go.WideShapes Go.ChangeAt Go.RowKit Go.Maps
open Go.Proofs.YtfekmlblldhieaaDoor.Pl
set_option linter.unusedVariables false
set_option linter.unusedSimpArgs false
theorem res_mkC (tm : Array Value) (W : World) (R : Nat) (ec : Int) (x0 x1 : Value) (hB : Blk W R #[x0, x1] 24) (h2 : tm.getD 2 undef = .pointer (some ⟨R, 0, none⟩)) (h3 : tm.getD 3 undef = .int .i64 ec) : (results Tryd.f7 tm).run Tryd.prog W = .ok (.tuple #[.agg #[x0, x1], .int .i64 ec]) W := by
  have c0 := hB.cell 0 (v := x0) rfl
  have c1 := hB.cell 1 (v := x1) rfl
  simp only [Array.getD_eq_getD_getElem?] at h2 h3
  simp [results, Tryd.results7, go_sem, h2, h3, c0, c1]
theorem full_empC (l : List St) : l.all (fun s => s.2.all fullA) = !empB l := by
  unfold empB
  rw [Bool.eq_iff_iff]
  simp only [List.all_eq_true, Bool.not_eq_true', List.any_eq_false, Bool.not_eq_true, fullA]
set_option maxRecDepth 100000 in
theorem certP_bad (v : Value) (m : Mc) (w : World) (h : Mach w v m) (hok : okM m) (r : Int) (hr : faultM m = r) (h0 : ¬ r = 0) :
    Calls Tryd.prog 7 #[v] w fun e w' => RatRes (0, []) r w e w' := by
  have HLK := hidP (fun W (hW : Below w.heap.size w W) => bits_bad v m W (h.later hW (Nat.le_refl _)) hok r hr h0)
  obtain ⟨vs, rfl, hS⟩ := h
  obtain ⟨a, cap, rfl⟩ := hS.sl
  have hrn : (r != 0) = true := by simpa using h0
  clear hS hok hr h0
  generalize m.2.length = n at *
  generalize m.1 = z at *
  go_enter Tryd.func7, Tryd.ntmps7
  go_wp2_with (first
    | (go_at_call 11; (with_reducible refine (HLK.out _ (by go_grown)).mono ?_); rintro e w1 ⟨rfl, hb⟩; obtain ⟨s1, k0, k1, hb1⟩ := boxedTwo hb (by simp); have HB1 := hidP hb1; have K1 := hidP k1; have e0 := k1.cell 0 (v := .int .i64 0) rfl; have e1 := k1.cell 1 (v := .slice none 0 0) rfl; have g0 := k1.fz 0; have g1 := k1.fz 1; have l1 := k1.lt; clear hb hb1 k0 k1 HLK))
  exact bodyPost_ret (res_mkC _ _ (w.heap.size + 1) r _ _ (((K1.out.set 0 (.int .i64 0)).set 1 (.slice none 0 0)).alloc _) rfl rfl) rfl ⟨_, rfl, mach_zeroR _, ((HB1.out.setCell (p := ⟨w.heap.size + 1, 0, none⟩) (by show w.heap.size ≤ w.heap.size + 1; omega) _).setCell (p := ⟨w.heap.size + 1, 1, none⟩) (by show w.heap.size ≤ w.heap.size + 1; omega) _).alloc (by simp [World.setCell]; omega) _⟩
set_option maxRecDepth 100000 in
theorem certP_emp (z : Int) (a : Option Addr) (cap : Nat) (l : List St) (w : World) (hM : Mach w (.agg #[.int .i64 z, .slice a l.length cap]) (z, l)) (hok : okM (z, l)) (hr : faultM (z, l) = 0) (he : empB l = true ∨ (empB l = false ∧ z < 0)) :
    Calls Tryd.prog 7 #[.agg #[.int .i64 z, .slice a l.length cap]] w fun e w' => RatRes (if empB l = true then (0, []) else (-1, [])) (if empB l = true then 7 else 0) w e w' := by
  have HLK := hidP (fun W (hW : Below w.heap.size w W) => bits_ok z a cap l W (hM.later hW (Nat.le_refl _)) hok hr _ _ _ _ _ _ rfl (full_empC l) rfl rfl rfl rfl)
  have hz1 : -1 ≤ z := (right_parts hr).1.1
  generalize l.all (fun s => s.2.all accA) = b1 at *
  generalize l.all (fun s => onceB s.2) = b3 at *
  generalize l.all (fun s => sortB s.2) = b4 at *
  generalize (l.all (fun s => s.2.all freeA) && l.all freeS) = b5 at *
  clear hM hok hr
  generalize l.length = n at *
  have HNO : Hid (∀ W : World, Mach W (.agg #[.int .i64 (-1), .slice none 0 0]) (-1, [])) := fun W => ⟨_, rfl, (OwnSts.nil W 0).sts⟩
  have hnot : ∀ (x : Bool) (w : World), (Op.unary .not (.bool x)).run Tryd.prog w = .ok (.bool (!x)) w := fun _ _ => rfl
  rcases he with he | ⟨he, hz⟩
  · rw [he] at HLK
    rw [if_pos he, if_pos he]
    simp only [Bool.not_true, Bool.false_and] at HLK
    clear he
    go_enter Tryd.func7, Tryd.ntmps7
    go_wp2_with (first
      | (go_at_call 11; (with_reducible refine (HLK.out _ (by go_grown)).mono ?_); rintro e w1 ⟨rfl, hb⟩; obtain ⟨s1, k0, k1, hb1⟩ := boxedTwo hb (by simp); have HB1 := hidP hb1; have K1 := hidP k1; have e0 := k1.cell 0 (v := .int .i64 0) rfl; have e1 := k1.cell 1 (v := .slice none 0 0) rfl; have g0 := k1.fz 0; have g1 := k1.fz 1; have l1 := k1.lt; clear hb hb1 k0 k1 HLK))
    exact bodyPost_ret (res_mkC _ _ (w.heap.size + 1) 7 _ _ (((K1.out.set 0 (.int .i64 0)).set 1 (.slice none 0 0)).alloc _) rfl rfl) rfl ⟨_, rfl, mach_zeroR _, ((HB1.out.setCell (p := ⟨w.heap.size + 1, 0, none⟩) (by show w.heap.size ≤ w.heap.size + 1; omega) _).setCell (p := ⟨w.heap.size + 1, 1, none⟩) (by show w.heap.size ≤ w.heap.size + 1; omega) _).alloc (by simp [World.setCell]; omega) _⟩
  · rw [he] at HLK
    rw [if_neg (by rw [he]; simp), if_neg (by rw [he]; simp)]
    simp only [Bool.not_false, Bool.true_and] at HLK
    obtain rfl : z = -1 := by omega
    clear he hz hz1
    go_enter Tryd.func7, Tryd.ntmps7
    go_wp2_with (first
      | (go_at_call 11; (with_reducible refine (HLK.out _ (by go_grown)).mono ?_); rintro e w1 ⟨rfl, hb⟩; obtain ⟨s1, k0, k1, hb1⟩ := boxedTwo hb (by simp); have HB1 := hidP hb1; have K1 := hidP k1; have c0 := k0.cell 0 (v := .int .i64 (-1)) rfl; have l0 := k0.lt; have e0 := k1.cell 0 (v := .int .i64 0) rfl; have e1 := k1.cell 1 (v := .slice none 0 0) rfl; have g0 := k1.fz 0; have g1 := k1.fz 1; have l1 := k1.lt; clear hb hb1 k0 k1 HLK))
    exact bodyPost_ret (res_mkC _ _ (w.heap.size + 1) 0 _ _ (((K1.out.set 0 (.int .i64 (-1))).set 1 (.slice none 0 0)).alloc _) rfl rfl) rfl ⟨_, rfl, HNO.out _, ((HB1.out.setCell (p := ⟨w.heap.size + 1, 0, none⟩) (by show w.heap.size ≤ w.heap.size + 1; omega) _).setCell (p := ⟨w.heap.size + 1, 1, none⟩) (by show w.heap.size ≤ w.heap.size + 1; omega) _).alloc (by simp [World.setCell]; omega) _⟩
/-- What is held while a machine is made certain. -/
structure CerM (w wr : World) (C mb : Nat) (vt vs : Value) (ca : Array Value) (L : List (List Pa)) (S : List St) (n : Int) : Prop where
  bxA : Blk wr w.heap.size ca 24
  bxR : Blk wr (w.heap.size + 1) #[.int .i64 0, .slice none 0 0] 24
  mak : MakN wr (w.heap.size + 2) C mb vt vs L n
  sts : OwnSts wr (w.heap.size + 2) vs S
  below : Below w.heap.size w wr
  size : w.heap.size + 2 ≤ wr.heap.size
theorem CerM.next {w wr w' : World} {C mb : Nat} {vt vs vt' vs' : Value} {ca : Array Value} {L L' : List (List Pa)} {S S' : List St} {n n' : Int} (h : CerM w wr C mb vt vs ca L S n) (hb : Below (w.heap.size + 2) wr w') (hc : MakN w' (w.heap.size + 2) C mb vt' vs' L' n') (hs : OwnSts w' (w.heap.size + 2) vs' S') : CerM w w' C mb vt' vs' ca L' S' n' :=
  ⟨h.bxA.below hb (by omega), h.bxR.below hb (by omega), hc, hs, h.below.trans (hb.mono (by omega)), Nat.le_trans h.size hb.size⟩
/-- What add's answer means for the whole. -/
theorem add_ans {W W' : World} {base b mb : Nat} {l : List St} {nz z q n : Nat} {L : List (List Int)} {S : List St} {ec : Int} (hI : NumI (finC l) (hopsC l) (iniS nz z) q L S n) (hq : q < L.length) (h : AddAns W base b mb l (el L q) L S n ec W') :
    (ec ≠ 0 ∧ numA (finC l) (hopsC l) (iniS nz z) = ((0, []), ec)) ∨ (ec = 0 ∧ ∃ L' S' n' vt vs, NumI (finC l) (hopsC l) (iniS nz z) (q + 1) L' S' n' ∧ MakN W' base b mb vt vs (L'.map parL) ((n' : Nat) : Int) ∧ OwnSts W' base vs S') := by
  rcases h with ⟨h1, h2⟩ | ⟨h1, ⟨h2, i, hi, hf, ho⟩ | ⟨h2, i, hi, hf, ho, hx⟩ | ⟨h2, hf, vt, vs, hm, hs⟩⟩
  · left
    rw [h2]
    exact ⟨h1, hI.err hq h1⟩
  · left
    rw [h2]
    exact ⟨by omega, hI.over hq h1 hi hf ho⟩
  · left
    rw [h2]
    exact ⟨by omega, hI.full hq h1 hi hf ho hx⟩
  · right
    exact ⟨h2, _, _, _, vt, vs, hI.next hq h1 hf, hm, hs⟩
set_option maxRecDepth 100000 in
set_option maxHeartbeats 12800000 in
theorem certP_ok (z : Int) (a : Option Addr) (cap : Nat) (l : List St) (w : World) (hM : Mach w (.agg #[.int .i64 z, .slice a l.length cap]) (z, l)) (hok : okM (z, l)) (hr : faultM (z, l) = 0) (he : empB l = false) (hz : 0 ≤ z) (ht : Tab w) :
    Calls Tryd.prog 7 #[.agg #[.int .i64 z, .slice a l.length cap]] w fun e w' => RatRes (cerA (z, l)).1 (cerA (z, l)).2 w e w' := by
  have HLK := hidP (fun W (hW : Below w.heap.size w W) => bits_ok z a cap l W (hM.later hW (Nat.le_refl _)) hok hr _ _ _ _ _ _ rfl (full_empC l) rfl rfl rfl rfl)
  rw [he] at HLK
  simp only [Bool.not_false, Bool.true_and] at HLK
  obtain ⟨zn, rfl⟩ : ∃ zn : Nat, z = (zn : Int) := ⟨z.toNat, by omega⟩
  have hzl : zn < l.length := by have := (right_parts hr).1; simp only at this; omega
  have h60 := (right_size hr).1
  have HAN : Hid (cerA ((zn : Int), l) = numA (finC l) (hopsC l) (iniS l.length zn)) := by
    show _ = _
    unfold cerA
    rw [if_neg (fun g => g hr), he, if_neg (by decide), if_neg (by simp)]
    simp
  have HSET : Hid (∀ q L S nn, NumI (finC l) (hopsC l) (iniS l.length zn) q L S nn → ∀ R ∈ L, SetN l.length 60000000000 R) := fun q L S nn h R hR => cer_set (m := ((zn : Int), l)) hr hzl h.exp hR
  have HI0 := hidP (NumI.init (finC l) (hopsC l) (iniS l.length zn))
  have HPI : Hid ([iniS l.length zn].map parL = [[((zn : Int), 0)]]) := by show _ = _; rw [List.map_singleton, parL_ini hzl]
  generalize l.all (fun s => s.2.all accA) = b1 at *
  generalize l.all (fun s => onceB s.2) = b3 at *
  generalize l.all (fun s => sortB s.2) = b4 at *
  generalize (l.all (fun s => s.2.all freeA) && l.all freeS) = b5 at *
  obtain ⟨X, hX⟩ : ∃ X, cerA ((zn : Int), l) = X := ⟨_, rfl⟩
  rw [hX]
  have HX : Hid (numA (finC l) (hopsC l) (iniS l.length zn) = X) := HAN.out.symm.trans hX
  have HM := hidP hM
  have HTB := hidP ht
  have HR := hidP hr
  have hz1 : ((zn : Int) == -1) = false := by simp
  clear hX HAN hM hok hr he hz ht
  obtain ⟨nl, hnl⟩ : ∃ nl, l.length = nl := ⟨_, rfl⟩
  rw [hnl] at HLK HM HX HI0 HPI HSET hzl h60 ⊢
  have HNL := hidP hnl
  clear hnl
  have hnot : ∀ (x : Bool) (w : World), (Op.unary .not (.bool x)).run Tryd.prog w = .ok (.bool (!x)) w := fun _ _ => rfl
  go_enter Tryd.func7, Tryd.ntmps7
  go_upto_region 9 with (first
    | (go_at_call 11; (with_reducible refine (HLK.out _ (by go_grown)).mono ?_); rintro e w1 ⟨rfl, hb⟩; obtain ⟨s1, k0, k1, hb1⟩ := boxedTwo hb (by simp); have HB1 := hidP hb1; have K0 := hidP k0; have K1 := hidP k1; have c0 := k0.cell 0 (v := .int .i64 (zn : Int)) rfl; have l0 := k0.lt; clear hb hb1 k0 k1 HLK))
  have hsz : ((w1.alloc (.cells #[.bool b1, .bool true, .bool b3, .bool b4, .bool b5] 37)).alloc (.cells #[.map none, .slice none 0 0, .slice none 0 0, .int .i64 0] 50)).heap.size = w1.heap.size + 1 + 1 := by simp
  have B2 := hidP ((HB1.out.alloc HB1.out.size (.cells #[.bool b1, .bool true, .bool b3, .bool b4, .bool b5] 37)).alloc (by simp; omega) (.cells #[.map none, .slice none 0 0, .slice none 0 0, .int .i64 0] 50))
  have K02 := hidP ((K0.out.alloc (.cells #[.bool b1, .bool true, .bool b3, .bool b4, .bool b5] 37)).alloc (.cells #[.map none, .slice none 0 0, .slice none 0 0, .int .i64 0] 50))
  have K12 := hidP ((K1.out.alloc (.cells #[.bool b1, .bool true, .bool b3, .bool b4, .bool b5] 37)).alloc (.cells #[.map none, .slice none 0 0, .slice none 0 0, .int .i64 0] 50))
  have KC : Hid (Blk ((w1.alloc (.cells #[.bool b1, .bool true, .bool b3, .bool b4, .bool b5] 37)).alloc (.cells #[.map none, .slice none 0 0, .slice none 0 0, .int .i64 0] 50)) (w1.heap.size + 1) #[.map none, .slice none 0 0, .slice none 0 0, .int .i64 0] 50) := by
    have h9 := Blk.made (w1.alloc (.cells #[.bool b1, .bool true, .bool b3, .bool b4, .bool b5] 37)) #[.map none, .slice none 0 0, .slice none 0 0, .int .i64 0] 50
    rw [World.size_alloc] at h9
    exact h9
  clear c0 K0 K1 HB1
  generalize (w1.alloc (.cells #[.bool b1, .bool true, .bool b3, .bool b4, .bool b5] 37)).alloc (.cells #[.map none, .slice none 0 0, .slice none 0 0, .int .i64 0] 50) = w2 at *
  obtain ⟨C, hC⟩ : ∃ C, C = w1.heap.size + 1 := ⟨_, rfl⟩
  rw [← hC] at KC hsz ⊢
  have hCge : w.heap.size + 2 ≤ C := by omega
  have hw2 : w.heap.size + 2 ≤ w2.heap.size := by omega
  have c0 := K02.out.cell 0 (v := .int .i64 (zn : Int)) rfl
  have HBG := hidP (makBegin_any w (w2.alloc (.cells #[.int .i64 (zn : Int), .int .i64 0] 53)) (w.heap.size + 2) C (some ⟨w2.heap.size, 0, none⟩) 1 1 (zn : Int) (KC.out.alloc _) hCge (OwnP.one w2 ((zn : Int), 0) hw2) ⟨by omega, by omega⟩ HTB.out (B2.out.alloc B2.out.size _) (by omega))
  clear hsz hC s1 l0
  go_wp2_with (first
    | (go_at_call 15; (with_reducible refine HBG.out.mono ?_); rintro e w3 ⟨rfl, hb3, mb, vt, hc3⟩; have M3 : Hid (CerM w w3 C mb vt (.slice none 0 0) #[.int .i64 (zn : Int), .slice a nl cap] ([iniS nl zn].map parL) [] ((0 : Nat) : Int)) := (⟨(K02.out.alloc _).below hb3 (by omega), (K12.out.alloc _).below hb3 (by omega), (by rw [HPI.out]; exact hc3), OwnSts.nil _ _, (B2.out.alloc B2.out.size _).trans (hb3.mono (by omega)), Nat.le_trans hw2 (Nat.le_trans ((Below.refl w2.heap.size w2).alloc (Nat.le_refl _) (.cells #[.int .i64 (zn : Int), .int .i64 0] 53)).size hb3.size)⟩); clear hb3 hc3 HBG))
  clear c0 K02 K12 KC B2
  go_loopw [7] (fun i wr => ∃ (q n : Nat) (L : List (List Int)) (S : List St) (vt vs : Value), i = .int .i64 (q : Int) ∧ Hid (NumI (finC l) (hopsC l) (iniS nl zn) q L S n) ∧ Hid (CerM w wr C mb vt vs #[.int .i64 (zn : Int), .slice a nl cap] (L.map parL) S (n : Int))) (fun i _ => 61 - (intOf i).toNat)
  case atStart => exact ⟨0, 0, [iniS nl zn], [], vt, _, rfl, HI0, M3⟩
  case round =>
    clear M3 HI0
    obtain ⟨q, n, L, S, vt5, vs5, rfl, hI, hM⟩ := hrel
    obtain ⟨w5, hw5⟩ : ∃ w5, w5 = wr := ⟨_, rfl⟩
    subst hw5
    have hl60 := hI.out.l60
    have hqL := hI.out.le
    have hn4 := hI.out.n4
    obtain ⟨at5, ct5, hat⟩ := hM.out.mak.trs.sl
    rw [List.length_map] at hat
    subst hat
    have e1 := hM.out.mak.blk.cell 1 (v := .slice at5 L.length ct5) rfl
    by_cases hlt : q < L.length
    · have q0 : (0 : Int) ≤ (q : Int) := by omega
      have q1 : (q : Int) < (L.length : Int) := by omega
      obtain ⟨G, bs, cs, hG, hGl, g0, hPq⟩ := hM.out.mak.trs.get (q := q) (by rw [List.length_map]; exact hlt)
      subst hG
      rw [el_map hlt] at g0 hPq
      have hSl : S.length ≤ 1000 := by rw [hI.out.len]; omega
      have HADD := hidP (fun W' (hW : Below w5.heap.size w5 W') => makAdd_any w W' (w.heap.size + 2) C mb _ vs5 (zn : Int) a nl cap l (el L q) L S n bs _ cs (hM.out.mak.later hW) (hM.out.sts.laterB hW) (hPq.later hW) HM.out HR.out HTB.out (hM.out.below.trans (hW.mono hM.out.below.size)) (by omega) (by rw [HNL.out]; exact HSET.out q L S n hI.out _ (el_mem hlt)) (by rw [HNL.out]; exact HSET.out q L S n hI.out) hI.out.nodup hl60 hn4 hSl (Nat.le_trans hM.out.size hW.size))
      have HANS := hidP (fun W W' ec (h : AddAns W (w.heap.size + 2) C mb l (el L q) L S n ec W') => add_ans hI.out hlt h)
      have b0 := hM.out.bxA.cell 0 (v := .int .i64 (zn : Int)) rfl
      have b1' := hM.out.bxA.cell 1 (v := .slice a nl cap) rfl
      obtain ⟨nT, hnT⟩ : ∃ nT, (parL (el L q)).length = nT := ⟨_, rfl⟩
      rw [hnT] at g0 HADD
      obtain ⟨nL, hnL⟩ : ∃ nL, L.length = nL := ⟨_, rfl⟩
      rw [hnL] at e1 q1 hl60 hqL hlt
      clear hnT hnL hPq
      go_upto_region 13 with fail
      go_cut [8] (fun s8 wx => ∃ ec : Int, s8 = .int .i64 ec ∧ Hid (Below (w.heap.size + 2) w5 wx) ∧ Hid ((ec ≠ 0 ∧ numA (finC l) (hopsC l) (iniS nl zn) = ((0, []), ec)) ∨ (ec = 0 ∧ ∃ L' S' n' vt vs, NumI (finC l) (hopsC l) (iniS nl zn) (q + 1) L' S' n' ∧ MakN wx (w.heap.size + 2) C mb vt vs (L'.map parL) ((n' : Nat) : Int) ∧ OwnSts wx (w.heap.size + 2) vs S')))
      case first =>
        have hDr := hidP (Below.refl w5.heap.size w5).drew
        clear hI hM HX HSET HM HR HTB HNL HPI
        go_region_with (first
          | (go_at_call 16; (with_reducible refine (HADD.out _ hDr.out).mono ?_); rintro e w6 ⟨ec, rfl, hb6, ha6⟩; have B6 : Hid (Below (w.heap.size + 2) w5 w6) := (⟨hb6.os, hb6.tape, hb6.output, hb6.size, hb6.block⟩); have A6 := hidP (HANS.out _ _ _ ha6); clear hb6 ha6 HADD HANS))
        all_goals go_simp
        all_goals go_wp2
        all_goals go_meet
        all_goals exact ⟨ec, rfl, B6, A6⟩
      case rest =>
        obtain ⟨ec, rfl, B6, A6⟩ := hcut
        obtain ⟨w6, hw6⟩ : ∃ w6, w6 = wc := ⟨_, rfl⟩
        subst hw6
        clear HADD HANS e1 b0 b1' g0
        by_cases hec : ec = 0
        · subst hec
          obtain ⟨L', S', n', vt', vs', hN', hK', hO'⟩ : ∃ L' S' n' vt vs, NumI (finC l) (hopsC l) (iniS nl zn) (q + 1) L' S' n' ∧ MakN w6 (w.heap.size + 2) C mb vt vs (L'.map parL) ((n' : Nat) : Int) ∧ OwnSts w6 (w.heap.size + 2) vs S' := by
            rcases A6.out with ⟨g, _⟩ | ⟨_, g⟩
            · exact absurd rfl g
            · exact g
          have N6 := hidP hN'
          have M6 := hidP (hM.out.next B6.out hK' hO')
          clear hN' hK' hO' A6
          go_wp2
          go_roundw
          case rel => exact ⟨q + 1, n', L', S', vt', vs', by go_num, N6, M6⟩
          case measure => simp [intOf]; omega
        · have hne : (ec != 0) = true := by simpa using hec
          have HXE : Hid (X = ((0, []), ec)) := by
            rcases A6.out with ⟨_, g⟩ | ⟨g, _⟩
            · exact HX.out.symm.trans g
            · exact absurd g hec
          have hb6 := B6.out
          have R6 := hidP (hM.out.bxR.below hb6 (by omega))
          have W6 := hidP (hM.out.below.trans (hb6.mono (by omega)))
          have r0 := R6.out.cell 0 (v := .int .i64 0) rfl
          have r1 := R6.out.cell 1 (v := .slice none 0 0) rfl
          have g0 := R6.out.fz 0
          have g1 := R6.out.fz 1
          clear A6 hb6 hec
          repeat (first | go_skip | go_guarded | go_step | go_upon)
          exact bodyPost_ret (res_mkC _ _ (w.heap.size + 1) ec _ _ ((R6.out.set 0 (.int .i64 0)).set 1 (.slice none 0 0)) rfl rfl) rfl ⟨_, by rw [HXE.out], by rw [HXE.out]; exact mach_zeroR _, (W6.out.setCell (p := ⟨w.heap.size + 1, 0, none⟩) (by show w.heap.size ≤ w.heap.size + 1; omega) _).setCell (p := ⟨w.heap.size + 1, 1, none⟩) (by show w.heap.size ≤ w.heap.size + 1; omega) _⟩
    · have q1 : ¬ (q : Int) < (L.length : Int) := by omega
      have HXE : Hid (X = ((0, S), 0)) := by have h9 := hI.out.stop hlt; rw [HX.out] at h9; exact h9
      obtain ⟨av, cv, hvs⟩ := hM.out.sts.sts.sl
      subst hvs
      have e2 := hM.out.mak.blk.cell 2 (v := .slice av S.length cv) rfl
      have r0 := hM.out.bxR.cell 0 (v := .int .i64 0) rfl
      have r1 := hM.out.bxR.cell 1 (v := .slice none 0 0) rfl
      have g0 := hM.out.bxR.fz 0
      have g1 := hM.out.bxR.fz 1
      go_wp2
      refine bodyPost_ret (res_mkC _ _ (w.heap.size + 1) 0 _ _ ((hM.out.bxR.set 0 (.int .i64 0)).set 1 (.slice av S.length cv)) rfl rfl) rfl ⟨_, by rw [HXE.out], ?_, (hM.out.below.setCell (p := ⟨w.heap.size + 1, 0, none⟩) (by show w.heap.size ≤ w.heap.size + 1; omega) _).setCell (p := ⟨w.heap.size + 1, 1, none⟩) (by show w.heap.size ≤ w.heap.size + 1; omega) _⟩
      rw [HXE.out]
      exact ⟨_, rfl, ((hM.out.sts.setM hM.out.bxR 0 _).setM (hM.out.bxR.set 0 _) 1 _).sts⟩
/-- certain.Make answers what P17.1 says, at every machine. -/
theorem certP_any (v : Value) (m : Mc) (w : World) (h : Mach w v m) (hok : okM m) (ht : Tab w) :
    Calls Tryd.prog 7 #[v] w fun e w' => RatRes (cerA m).1 (cerA m).2 w e w' := by
  by_cases fa : faultM m = 0
  · obtain ⟨z, l⟩ := m
    have h2 := h
    obtain ⟨vs, rfl, hS⟩ := h2
    obtain ⟨a, cap, rfl⟩ := hS.sl
    by_cases he : empB l = true
    · have h9 := certP_emp z a cap l w h hok fa (.inl he)
      rw [if_pos he, if_pos he] at h9
      have e : cerA (z, l) = ((0, []), 7) := by unfold cerA; rw [if_neg (fun g => g fa), if_pos he]
      rw [e]
      exact h9
    · have he' : empB l = false := by simpa using he
      by_cases hz : z < 0
      · have h9 := certP_emp z a cap l w h hok fa (.inr ⟨he', hz⟩)
        rw [if_neg he, if_neg he] at h9
        have e : cerA (z, l) = ((-1, []), 0) := by unfold cerA; rw [if_neg (fun g => g fa), if_neg he, if_pos hz]
        rw [e]
        exact h9
      · exact certP_ok z a cap l w h hok fa he' (by omega) ht
  · have e : cerA m = ((0, []), faultM m) := by unfold cerA; rw [if_pos fa]
    rw [e]
    exact certP_bad v m w h hok _ rfl fa
end Go.Proofs.YtfekmlblldhieaaDoor.Wt
