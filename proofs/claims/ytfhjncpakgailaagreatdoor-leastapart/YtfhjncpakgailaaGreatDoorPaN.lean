/- What arranging keeps (no program in sight). -/
import Derived.Test.YtfhjncpakgailaaGreatDoorPai
import Derived.Test.YtfhjncpakgailaaGreatDoorPaM
import Derived.Test.YtfhjncpakgailaaGreatDoorPad
import Derived.Test.YtfhjncpakgailaaGreatDoorPaz
import Derived.Test.YtfhjncpakgailaaGreatDoorPaK
import Derived.Test.YtfhjncpakgailaaGreatDoorPau
import Derived.Test.YtfhjncpakgailaaGreatDoorPat
import Derived.Test.YtfhjncpakgailaaGreatDoorPaj
import Derived.Test.YtfhjncpakgailaaGreatDoorPab
import Derived.Test.YtfhjncpakgailaaGreatDoorPap
namespace Go.Proofs.YtfhjncpakgailaaGreatDoor.Pl
theorem arcN_map {f : List Ar → List Ar} (hf : ∀ l, (f l).length ≤ l.length) (l : List St) : arcN (l.map fun s => (s.1, f s.2)) ≤ arcN l := by
 induction l with
 | nil => simp [arcN]
 | cons s l ih => have := hf s.2; simp only [List.map_cons, arcN]; omega
theorem fault_map {f : List Ar → List Ar} (hf : ∀ l, (f l).length ≤ l.length) (hs : ∀ l a, a ∈ f l → a ∈ l) {m : Mc} (h : faultM m = 0) : faultM (mapM f m) = 0 := by
 obtain ⟨h1, h2⟩ := faultM_zero h
 have h3 := arcN_map hf m.2
 refine faultM_ok ?_ ?_
 ·simp only [sizeB, mapM, Bool.and_eq_true, decide_eq_true_eq, List.length_map] at h1 ⊢
  exact ⟨h1.1, decide_eq_true (Nat.le_trans h3 h1.2)⟩
 ·simp only [rangeB, mapM, Bool.and_eq_true, List.length_map, List.all_eq_true] at h2 ⊢
  refine ⟨h2.1, fun s hs' => ?_⟩
  simp only [List.mem_map] at hs'
  obtain ⟨t, ht, rfl⟩ := hs'
  have h4 := h2.2 t ht
  simp only [stB, Bool.and_eq_true, List.all_eq_true] at h4 ⊢
  exact ⟨h4.1, fun a ha => h4.2 a (hs _ a ha)⟩
end Go.Proofs.YtfhjncpakgailaaGreatDoor.Pl
namespace Go.Proofs.YtfhjncpakgailaaGreatDoor.Pl
set_option linter.unusedVariables false
set_option linter.unusedSimpArgs false
def srtM (p : Mc) : Mc := mapM (sortS false) p
theorem srt_len (p : Mc) : (srtM p).2.length = p.2.length := by simp [srtM, mapM]
theorem srt_right {p : Mc} (h : faultM p = 0) : faultM (srtM p) = 0 := fault_map (fun l => by rw [sortS_length]; exact Nat.le_refl _) (fun l a ha => (sortS_perm false l).mem_iff.1 ha) h
def SmlAns (m x : Mc) (tot ec : Int) : Prop :=
 (faultM m ≠ 0 ∧ x = (0, []) ∧ tot = 0 ∧ ec = faultM m) ∨
 (faultM m = 0 ∧ empB m.2 = true ∧ x = (0, []) ∧ tot = 0 ∧ ec = 7) ∨
 (faultM m = 0 ∧ empB m.2 = false ∧ m.2.all (fun s => onceB s.2) = false ∧ x = (0, []) ∧ tot = 0 ∧ ec = 8) ∨
 (faultM m = 0 ∧ empB m.2 = false ∧ m.2.all (fun s => onceB s.2) = true ∧ ∃ p t e, PshAns m p t e ∧
  ((e ≠ 0 ∧ x = (0, []) ∧ tot = 0 ∧ ec = e) ∨ (e = 0 ∧ p.1 < 0 ∧ x = srtM p ∧ tot = 0 ∧ ec = 0) ∨
   (e = 0 ∧ 0 ≤ p.1 ∧ (∃ f, FstC (srtM p).2 f ∧ lstA (srtM p).2 f p.1.toNat = (x, 0)) ∧ tot = t ∧ ec = 0)))
theorem psh_rights {m p : Mc} {t : Int} (h : PshAns m p t 0) : faultM p = 0 := by
 rcases h with ⟨h0, _, _, h1⟩ | ⟨hf, aa, bs, vs, e, hA, hB, hD, h⟩
 ·exact absurd h1.symm h0
 ·obtain ⟨z, l⟩ := m
  obtain ⟨tz, tl, hT, hfT, hAT, hBT, hST, hz, hlen⟩ := trimmed_facts hf hA hB
  have hT' : trmM (z, l) aa bs = (tz, tl) := hT
  rw [hT'] at hD h
  rcases h with ⟨k, _, _, k2⟩ | ⟨_, _, _, _, k⟩ | ⟨he, hO, hx, _, _⟩
  ·exact absurd k2.symm k
  ·cases k
  ·subst he
   obtain ⟨b0, hb0⟩ : ∃ b, Least (BackC tl) tl.length b := by
    have := trim_all_back hf hA hB
    have e9 : tl = (keptL aa bs l.length).map (trimS l (keptL aa bs l.length)) := by have := congrArg Prod.snd hT; exact this.symm
    rw [e9, List.length_map]
    exact ⟨_, this⟩
   have hall : ∀ q, q < tl.length → ∃ c, EndC tl q c := fun q hq => end_all (m := (tz, tl)) hfT hb0 hq (by rw [hBT b0 hb0]; exact el_true.2 hq)
   obtain ⟨hP, hL⟩ := pot_of (m := (tz, tl)) hfT hall hD
   rw [hx]
   exact psh_right (m := (tz, tl)) hfT hP hO
end Go.Proofs.YtfhjncpakgailaaGreatDoor.Pl
namespace Go.Proofs.YtfhjncpakgailaaGreatDoor.Wt
open Go.ChangeShapes Go.WideShapes Go.ChangeAt Go.RowKit
open Go.Proofs.YtfhjncpakgailaaGreatDoor.Pl
set_option linter.unusedVariables false
set_option linter.unusedSimpArgs false
theorem full_empY (l : List St) : l.all (fun s => s.2.all fullA) = !empB l := by
 unfold empB
 rw [Bool.eq_iff_iff]
 simp only [List.all_eq_true, Bool.not_eq_true', List.any_eq_false, Bool.not_eq_true, fullA]
theorem bits_lst (z : Int) (a : Option Addr) (cap : Nat) (l : List St) (w : World) (hM : Mach w (.agg #[.int .i64 z, .slice a l.length cap]) (z, l)) (hok : okM (z, l)) (hr : faultM (z, l) = 0) (bE bO : Bool) (hE : empB l = bE) (hO : l.all (fun s => onceB s.2) = bO) :
  ∃ b1 b4 b5 : Bool, ∀ W, Below w.heap.size w W → Calls Tryz.prog 11 #[.agg #[.int .i64 z, .slice a l.length cap]] W fun e w' => e = .returned (.tuple #[.agg #[.bool b1, .bool (!bE), .bool (!bE && bO), .bool b4, .bool b5], .int .i64 0]) ∧ Below W.heap.size W w' :=
 ⟨_, _, _, fun W hW => bits_ok z a cap l W (hM.later hW (Nat.le_refl _)) hok hr _ (!bE) bO _ _ _ rfl (by rw [full_empY, hE]) hO rfl rfl rfl⟩
def rfE (m : Mc) : Int := if faultM m ≠ 0 then faultM m else if empB m.2 = true then 7 else if m.2.all (fun s => onceB s.2) = true then 0 else 8
set_option maxRecDepth 100000 in
theorem refused_any (v : Value) (m : Mc) (w : World) (h : Mach w v m) (hok : okM m) (r : Int) (hr : rfE m = r) :
  Calls Tryz.prog 39 #[v] w fun e w' => e = .returned (.int .i64 r) ∧ Below w.heap.size w w' := by
 have hnot : ∀ (x : Bool) (w : World), (Op.unary .not (.bool x)).run Tryz.prog w = .ok (.bool (!x)) w := fun _ _ => rfl
 by_cases fa : faultM m = 0
 ·obtain ⟨z, l⟩ := m
  have h2 := h
  obtain ⟨vs, rfl, hS⟩ := h2
  obtain ⟨a, cap, rfl⟩ := hS.sl
  simp only at h ⊢
  cases he : empB l
  ·cases ho : l.all (fun s => onceB s.2)
   ·obtain ⟨b1, b4, b5, hLK⟩ := bits_lst z a cap l w h hok fa false false he ho
    simp only [Bool.not_false, Bool.true_and] at hLK
    obtain rfl : r = 8 := by rw [← hr]; unfold rfE; rw [if_neg (fun g => g fa), if_neg (by simp [he]), if_neg (by simp only [ho]; simp)]
    have HLK := hidP hLK
    clear hr fa he ho h hok hS hLK
    generalize l.length = n at *
    go_enter Tryz.func39, Tryz.ntmps39
    go_wp2_with (first
     | (go_at_call 11; (with_reducible refine (HLK.out _ (by go_grown)).mono ?_); rintro e w1 ⟨rfl, hb⟩; obtain ⟨s1, _, hb1⟩ := boxed hb (by simp); have HB1 := hidP hb1; clear hb hb1 HLK))
    go_ret
    exact ⟨rfl, HB1.out.alloc HB1.out.size _⟩
   ·obtain ⟨b1, b4, b5, hLK⟩ := bits_lst z a cap l w h hok fa false true he ho
    simp only [Bool.not_false, Bool.true_and] at hLK
    obtain rfl : r = 0 := by rw [← hr]; unfold rfE; rw [if_neg (fun g => g fa), if_neg (by simp [he]), if_pos ho]
    have HLK := hidP hLK
    clear hr fa he ho h hok hS hLK
    generalize l.length = n at *
    go_enter Tryz.func39, Tryz.ntmps39
    go_wp2_with (first
     | (go_at_call 11; (with_reducible refine (HLK.out _ (by go_grown)).mono ?_); rintro e w1 ⟨rfl, hb⟩; obtain ⟨s1, _, hb1⟩ := boxed hb (by simp); have HB1 := hidP hb1; clear hb hb1 HLK))
    go_ret
    exact ⟨rfl, HB1.out.alloc HB1.out.size _⟩
  ·obtain ⟨b1, b4, b5, hLK⟩ := bits_lst z a cap l w h hok fa true _ he rfl
   simp only [Bool.not_true, Bool.false_and] at hLK
   obtain rfl : r = 7 := by rw [← hr]; unfold rfE; rw [if_neg (fun g => g fa), if_pos he]
   have HLK := hidP hLK
   clear hr fa he h hok hS hLK
   generalize l.length = n at *
   go_enter Tryz.func39, Tryz.ntmps39
   go_wp2_with (first
    | (go_at_call 11; (with_reducible refine (HLK.out _ (by go_grown)).mono ?_); rintro e w1 ⟨rfl, hb⟩; obtain ⟨s1, _, hb1⟩ := boxed hb (by simp); have HB1 := hidP hb1; clear hb hb1 HLK))
   go_ret
   exact ⟨rfl, HB1.out.alloc HB1.out.size _⟩
 ·have e1 : faultM m = r := by rw [← hr]; unfold rfE; rw [if_pos fa]
  have h0 : ¬ r = 0 := by rw [← e1]; exact fa
  have HLK := hidP (fun W (hW : Below w.heap.size w W) => bits_bad v m W (h.later hW (Nat.le_refl _)) hok r e1 h0)
  obtain ⟨vs, rfl, hS⟩ := h
  obtain ⟨a, cap, rfl⟩ := hS.sl
  have hrn : (r != 0) = true := by simpa using h0
  clear hS hok hr h0 fa e1
  generalize m.2.length = n at *
  generalize m.1 = z at *
  go_enter Tryz.func39, Tryz.ntmps39
  go_wp2_with (first
   | (go_at_call 11; (with_reducible refine (HLK.out _ (by go_grown)).mono ?_); rintro e w1 ⟨rfl, hb⟩; obtain ⟨s1, _, hb1⟩ := boxed hb (by simp); have HB1 := hidP hb1; clear hb hb1 HLK))
  go_ret
  exact ⟨rfl, HB1.out.alloc HB1.out.size _⟩
theorem res_mak (tm : Array Value) (W : World) (R : Nat) (tot ec : Int) (x0 x1 : Value) (hB : Blk W R #[x0, x1] 29) (h2 : tm.getD 2 undef = .pointer (some ⟨R, 0, none⟩)) (h3 : tm.getD 3 undef = .int .i64 tot) (h4 : tm.getD 4 undef = .int .i64 ec) : (results Tryz.f15 tm).run Tryz.prog W = .ok (.tuple #[.agg #[x0, x1], .int .i64 tot, .int .i64 ec]) W := by
 have c0 := hB.cell 0 (v := x0) rfl
 have c1 := hB.cell 1 (v := x1) rfl
 simp only [Array.getD_eq_getD_getElem?] at h2 h3 h4
 simp [results, Tryz.results15, go_sem, h2, h3, h4, c0, c1]
def HeldQy (Sb : Nat) (z : Int) (vs : Value) (w : World) : Prop := w.cell? ⟨Sb, 0, none⟩ = some (.int .i64 z) ∧ w.cell? ⟨Sb, 1, none⟩ = some vs
theorem psh_noneY {m p : Mc} {t : Int} (h : PshAns m p t 0) (hz : p.1 < 0) : p = (-1, []) := by
 have hf := psh_rights h
 rcases h with ⟨h0, _, _, h1⟩ | ⟨hf0, aa, bs, vs, e, hA, hB, hD, h⟩
 ·exact absurd h1.symm h0
 ·obtain ⟨z, l⟩ := m
  obtain ⟨tz, tl, hT, hfT, hAT, hBT, hST, hzz, hlen⟩ := trimmed_facts hf0 hA hB
  have hT' : trmM (z, l) aa bs = (tz, tl) := hT
  rw [hT'] at hD h
  rcases h with ⟨k, _, _, k2⟩ | ⟨_, _, _, _, k⟩ | ⟨he, hO, hx, _, _⟩
  ·exact absurd k2.symm k
  ·cases k
  ·subst hx
   have h9 : tl.length = 0 := hzz.1 hz
   have h8 : (pshM vs (tz, tl)).2 = [] := List.eq_nil_of_length_eq_zero (by rw [show (pshM vs (tz, tl)).2.length = tl.length from psh_length _ _]; exact h9)
   have h7 := (right_parts (m := pshM vs (tz, tl)) hf).1.1
   refine Prod.ext ?_ h8
   show (pshM vs (tz, tl)).1 = -1
   omega
set_option maxRecDepth 100000 in
set_option maxHeartbeats 6400000 in
theorem leastMk_own (v : Value) (m : Mc) (w : World) (h : Mach w v m) (hok : okM m) (ht : Tab w) :
  Calls Tryz.prog 15 #[v] w fun e w' => PshOwn (SmlAns m) w e w' := by
 obtain ⟨r, hr⟩ : ∃ r, rfE m = r := ⟨_, rfl⟩
 have HRF := hidP (fun W (hW : Below w.heap.size w W) => refused_any v m W (h.later hW (Nat.le_refl _)) hok r hr)
 have HPS := hidP (fun W (hW : Below w.heap.size w W) => pushP_any v m W (h.later hW (Nat.le_refl _)) hok)
 have HTB := hidP ht
 have HA0 : Hid (r ≠ 0 → SmlAns m (0, []) 0 r) := fun h0 => by
  unfold rfE at hr
  by_cases fa : faultM m = 0
  ·rw [if_neg (fun g => g fa)] at hr
   by_cases he : empB m.2 = true
   ·rw [if_pos he] at hr
    exact .inr (.inl ⟨fa, he, rfl, rfl, hr.symm⟩)
   ·rw [if_neg he] at hr
    by_cases ho : m.2.all (fun s => onceB s.2) = true
    ·rw [if_pos ho] at hr; exact absurd hr.symm h0
    ·rw [if_neg ho] at hr
     exact .inr (.inr (.inl ⟨fa, by simpa using he, by simpa using ho, rfl, rfl, hr.symm⟩))
  ·rw [if_pos fa] at hr
   exact .inl ⟨fa, rfl, rfl, hr.symm⟩
 have HA4 : Hid (r = 0 → ∀ x tot ec, (∃ p t e, PshAns m p t e ∧ ((e ≠ 0 ∧ x = (0, []) ∧ tot = 0 ∧ ec = e) ∨ (e = 0 ∧ p.1 < 0 ∧ x = srtM p ∧ tot = 0 ∧ ec = 0) ∨ (e = 0 ∧ 0 ≤ p.1 ∧ (∃ f, FstC (srtM p).2 f ∧ lstA (srtM p).2 f p.1.toNat = (x, 0)) ∧ tot = t ∧ ec = 0))) → SmlAns m x tot ec) := fun h0 x tot ec hx => by
  rw [h0] at hr
  unfold rfE at hr
  by_cases fa : faultM m = 0
  ·rw [if_neg (fun g => g fa)] at hr
   by_cases he : empB m.2 = true
   ·rw [if_pos he] at hr; cases hr
   ·rw [if_neg he] at hr
    by_cases ho : m.2.all (fun s => onceB s.2) = true
    ·exact .inr (.inr (.inr ⟨fa, by simpa using he, ho, hx⟩))
    ·rw [if_neg ho] at hr; cases hr
  ·rw [if_pos fa] at hr; exact absurd hr fa
 have HFR : Hid (∀ p t, PshAns m p t 0 → faultM p = 0 ∧ faultM (srtM p) = 0) := fun p t h => ⟨psh_rights h, srt_right (psh_rights h)⟩
 have HNO : Hid (∀ p t, PshAns m p t 0 → p.1 < 0 → p = (-1, [])) := fun p t h hz => psh_noneY h hz
 obtain ⟨vs, rfl, hS⟩ := h
 obtain ⟨a, cap, rfl⟩ := hS.sl
 clear hS hok hr ht
 generalize SmlAns m = Q at *
 obtain ⟨z, l⟩ := m
 simp only at HRF HPS ⊢
 generalize l.length = nl at *
 have HB0 : Hid (Below w.heap.size w ((w.alloc (.cells #[.int .i64 z, .slice a nl cap] 29)).alloc (.cells #[.int .i64 0, .slice none 0 0] 29))) := (((Below.refl _ _).alloc (Nat.le_refl _) _).alloc (by simp) _)
 go_enter Tryz.func15, Tryz.ntmps15
 go_upto_region 2 with (first
  | (go_at_call 39; (with_reducible refine (HRF.out _ HB0.out).mono ?_); rintro e w1 ⟨rfl, hb⟩; obtain ⟨s1, k0, k1, hb1⟩ := boxedTwo hb (by simp); have HB1 := hidP hb1; have K0 := hidP k0; have K1 := hidP k1; clear hb hb1 k0 k1 HRF HB0))
 by_cases h0 : r = 0
 rotate_left
 ·have hrn : (r != 0) = true := by simpa using h0
  have HAN := hidP (HA0.out h0)
  have e0 := K1.out.cell 0 (v := .int .i64 0) rfl
  have e1 := K1.out.cell 1 (v := .slice none 0 0) rfl
  have g0 := K1.out.fz 0
  have g1 := K1.out.fz 1
  clear h0
  go_wp2
  exact bodyPost_ret (res_mak _ _ (w.heap.size + 1) 0 r _ _ ((K1.out.set 0 (.int .i64 0)).set 1 (.slice none 0 0)) rfl rfl rfl) rfl ⟨_, _, _, _, rfl, HAN.out, .inl ⟨rfl, mach_zeroR _⟩, (HB1.out.setCell (p := ⟨w.heap.size + 1, 0, none⟩) (by show w.heap.size ≤ w.heap.size + 1; omega) _).setCell (p := ⟨w.heap.size + 1, 1, none⟩) (by show w.heap.size ≤ w.heap.size + 1; omega) _⟩
 have HA5 := hidP (HA4.out h0)
 clear HA4
 subst h0
 have c0 := K0.out.cell 0 (v := .int .i64 z) rfl
 have c1 := K0.out.cell 1 (v := .slice a nl cap) rfl
 clear HA0 s1
 go_upto_region 5 with (first
  | (go_at_call 40; (with_reducible refine (HPS.out _ HB1.out).mono ?_); rintro e w2 ⟨vp, p, t, ec, rfl, hq, hi, hb2⟩; have HP2 := hidP hq; have HM2 := hidP hi; obtain ⟨vsp, rfl, hSp⟩ := hi; obtain ⟨ap, cp, rfl⟩ := hSp.sl; have K2 := hidP (K1.out.below hb2 K1.out.lt); have HB2 := hidP (HB1.out.trans (hb2.mono HB1.out.size)); clear hq hb2 hSp HPS))
 clear c0 c1 HB1 K1 K0
 by_cases he : ec = 0
 rotate_left
 ·have hne : (ec != 0) = true := by simpa using he
  have HAN := hidP (HA5.out (0, []) 0 ec ⟨p, t, ec, HP2.out, .inl ⟨he, rfl, rfl, rfl⟩⟩)
  have e0 := K2.out.cell 0 (v := .int .i64 0) rfl
  have e1 := K2.out.cell 1 (v := .slice none 0 0) rfl
  have g0 := K2.out.fz 0
  have g1 := K2.out.fz 1
  have l1 := K2.out.lt
  clear he
  go_wp2
  exact bodyPost_ret (res_mak _ _ (w.heap.size + 1) 0 ec _ _ (((K2.out.set 0 (.int .i64 0)).set 1 (.slice none 0 0)).alloc _) rfl rfl rfl) rfl ⟨_, _, _, _, rfl, HAN.out, .inl ⟨rfl, mach_zeroR _⟩, ((HB2.out.setCell (p := ⟨w.heap.size + 1, 0, none⟩) (by show w.heap.size ≤ w.heap.size + 1; omega) _).setCell (p := ⟨w.heap.size + 1, 1, none⟩) (by show w.heap.size ≤ w.heap.size + 1; omega) _).alloc (by simp [World.setCell]; exact HB2.out.size) _⟩
 subst he
 obtain ⟨hfp, hfs⟩ := HFR.out p t HP2.out
 have HFP := hidP hfp
 have HFS := hidP hfs
 clear hfp hfs HFR
 have K2l := K2.out.lt
 by_cases hz : p.1 < 0
 ·obtain rfl := HNO.out p t HP2.out hz
  have HAN := hidP (HA5.out (-1, []) 0 0 ⟨(-1, []), t, 0, HP2.out, .inr (.inl ⟨rfl, hz, rfl, rfl, rfl⟩)⟩)
  have e0 := K2.out.cell 0 (v := .int .i64 0) rfl
  have e1 := K2.out.cell 1 (v := .slice none 0 0) rfl
  have g0 := K2.out.fz 0
  have g1 := K2.out.fz 1
  have MN : Hid (∀ W : World, Mach W (.agg #[.int .i64 (-1), .slice none 0 0]) (-1, [])) := fun W => ⟨_, rfl, (OwnSts.nil W 0).sts⟩
  clear hz
  go_wp2
  exact bodyPost_ret (res_mak _ _ (w.heap.size + 1) 0 0 _ _ (((K2.out.set 0 (.int .i64 (-1))).set 1 (.slice none 0 0)).alloc _) rfl rfl rfl) rfl ⟨_, _, _, _, rfl, HAN.out, .inl ⟨rfl, MN.out _⟩, ((HB2.out.setCell (p := ⟨w.heap.size + 1, 0, none⟩) (by show w.heap.size ≤ w.heap.size + 1; omega) _).setCell (p := ⟨w.heap.size + 1, 1, none⟩) (by show w.heap.size ≤ w.heap.size + 1; omega) _).alloc (by simp [World.setCell]; exact HB2.out.size) _⟩
 have hz0 : 0 ≤ p.1 := by omega
 have hzb : (p.1 == -1) = false := by simp; omega
 have HA6 := hidP (fun x h9 => HA5.out x t 0 ⟨p, t, 0, HP2.out, .inr (.inr ⟨rfl, hz0, h9, rfl, rfl⟩)⟩)
 have HAR := hidP (fun W vv (hv : Mach W vv p) => sorted_any vv p W hv (right_okM HFP.out) 0 HFP.out)
 clear HNO hz
 obtain ⟨pz, hpz⟩ : ∃ pz, p.1 = pz := ⟨_, rfl⟩
 have HPZ := hidP hpz
 rw [hpz] at hzb hz0 HA6 HM2 ⊢
 clear hpz
 generalize p.2.length = np at *
 go_upto_region 10 with (first
  | (go_at_call 41; (with_reducible refine (HAR.out _ _ (HM2.out.later ((Below.refl _ _).alloc (Nat.le_refl _) _) (Nat.le_refl _))).mono ?_); rintro e w3 ⟨vq, rfl, hi, hb⟩; have HM3 : Hid (Mach w3 vq (srtM p)) := hi.mach; obtain ⟨aq, cq, hvq⟩ := MachFrom.sl (m := srtM p) hi; obtain ⟨s3, _, hb3⟩ := boxed hb (by simp); have K3 := hidP (K2.out.below hb3 K2.out.lt); have HB3 := hidP (HB2.out.trans (hb3.mono HB2.out.size)); clear hb hb3 hi HAR))
 subst hvq
 have hs1 : (srtM p).1 = pz := HPZ.out
 have HSR : Hid (∀ x, (∃ f, FstC (srtM p).2 f ∧ lstA (srtM p).2 f pz.toNat = (x, 0)) → Q x t 0) := HA6.out
 obtain ⟨sm, hsm⟩ : ∃ sm, srtM p = sm := ⟨_, rfl⟩
 rw [hsm] at HFS HM3 HSR hs1 ⊢
 clear hsm HP2 HFP HA5 HA6 HM2
 obtain ⟨zs, ls⟩ := sm
 simp only at HM3 HSR hs1 ⊢
 subst hs1
 obtain ⟨zn, rfl⟩ : ∃ zn : Nat, zs = (zn : Int) := ⟨zs.toNat, by omega⟩
 rw [Int.toNat_natCast] at HSR
 have hzl : zn < ls.length := by have h9 := (right_parts HFS.out).1.2; simp only at h9; omega
 have h60 : ls.length ≤ 60 := (right_size HFS.out).1
 obtain ⟨n, hn⟩ : ∃ n, ls.length = n := ⟨_, rfl⟩
 have HN := hidP hn
 have hA4 := (Below.refl w3.heap.size w3).alloc (Nat.le_refl _) (.cells #[.int .i64 (zn : Int), .slice aq ls.length cq] 29)
 have K4 := hidP (K3.out.below hA4 K3.out.lt)
 have S4 := hidP (Blk.made w3 #[.int .i64 (zn : Int), .slice aq ls.length cq] 29)
 have B4 := hidP (HB3.out.trans (hA4.mono HB3.out.size))
 have M4 := hidP (HM3.out.later hA4 (Nat.le_refl _))
 have hRS : w.heap.size + 1 ≠ w3.heap.size := by have := K3.out.lt; omega
 rw [hn] at K4 S4 B4 M4 hA4 ⊢
 clear hA4 K3 HB3 HM3 hn
 go_upto_region 12 with fail
 generalize w3.alloc (.cells #[.int .i64 (zn : Int), .slice aq n cq] 29) = w4 at *
 obtain ⟨Sb, hSb⟩ : ∃ Sb, Sb = w3.heap.size := ⟨_, rfl⟩
 rw [← hSb] at S4 hRS ⊢
 clear hSb
 have hDr := (Below.refl w4.heap.size w4).drew
 have HT : HeldQy Sb (zn : Int) (.slice aq n cq) w4.drew := ⟨S4.out.cell 0 rfl, S4.out.cell 1 rfl⟩
 have HKO := hidP (kindsOf_any (zn : Int) ls aq cq w4.drew (by rw [HN.out]; exact M4.out.later hDr (Nat.le_refl _)) HFS.out (by omega) (HTB.out.later (B4.out.trans (hDr.mono B4.out.size))))
 have HJO := hidP (fun W gk K (hW : Below w4.drew.heap.size w4.drew W) (hK : KndF ls K) (hB : Blk W gk (K.map (Value.int .i64)).toArray 3) => joined_any zn ls aq cq gk K W (by rw [HN.out]; exact (M4.out.later hDr (Nat.le_refl _)).later hW (Nat.le_refl _)) HFS.out hzl hK hB)
 rw [HN.out] at HKO HJO
 have K5 : Hid (Blk w4.drew (w.heap.size + 1) #[.int .i64 0, .slice none 0 0] 29) := K4.out
 have S5 : Hid (Blk w4.drew Sb #[.int .i64 (zn : Int), .slice aq n cq] 29) := S4.out
 have B5 := hidP (B4.out.trans (hDr.mono B4.out.size))
 refine region_anyL (HeldQy Sb (zn : Int) (.slice aq n cq)) 1000 (by kernel_rfl) ?_
 refine anyL_tk (i := 0) (v := ?v0_1) aZ0 (by kernel_rfl) ?y0_1 HT ?r0_1
 case y0_1 => intro wx hx; obtain ⟨h0, h1⟩ := hx; go_simp; try (with_reducible rfl)
 simp only [Act.put, List.setIfInBounds_toArray, List.set_cons_zero, List.set_cons_succ]
 refine anyL_tk (i := 1) (v := ?v1_2) aZ1 (by kernel_rfl) ?y1_2 HT ?r1_2
 case y1_2 => intro wx hx; obtain ⟨h0, h1⟩ := hx; go_simp; try (with_reducible rfl)
 simp only [Act.put, List.setIfInBounds_toArray, List.set_cons_zero, List.set_cons_succ]
 refine anyL_tk (i := 4) (v := ?v4_3) aZ4 (by kernel_rfl) ?y4_3 HT ?r4_3
 case y4_3 => intro wx hx; obtain ⟨h0, h1⟩ := hx; go_simp; try (with_reducible rfl)
 simp only [Act.put, List.setIfInBounds_toArray, List.set_cons_zero, List.set_cons_succ]
 refine anyL_one (i := 2) aZ2 (by kernel_rfl) rfl (fun K hK => ?_)
 go_simp
 with_reducible refine HKO.out.mono ?_
 rintro e w6 ⟨gk, K, rfl, hKF, hKB, _, hb6⟩
 have S6 := hidP (S5.out.below hb6 S5.out.lt)
 have K6 := hidP (K5.out.below hb6 K5.out.lt)
 have B6 := hidP (B5.out.trans (hb6.mono B5.out.size))
 have HJ6 := hidP (HJO.out w6 gk K hb6 hKF hKB)
 have HT6 : HeldQy Sb (zn : Int) (.slice aq n cq) w6 := ⟨S6.out.cell 0 rfl, S6.out.cell 1 rfl⟩
 clear hKF hKB hb6 HKO HJO
 refine hK _ _ (.inr HT6) ?_
 try simp only [Act.put, List.setIfInBounds_toArray, List.set_cons_zero, List.set_cons_succ]
 refine anyL_one (i := 3) aZ3 (by kernel_rfl) rfl (fun K hK => ?_)
 go_simp
 with_reducible refine HJ6.out.mono ?_
 rintro e w7 ⟨vx, x, rfl, hx, hO7, hb7⟩
 have S7 := hidP (S6.out.below hb7 S6.out.lt)
 have K7 := hidP (K6.out.below hb7 K6.out.lt)
 have B7 := hidP (B6.out.trans (hb7.mono B6.out.size))
 have HX := hidP (HSR.out x hx)
 have HT7 : HeldQy Sb (zn : Int) (.slice aq n cq) w7 := ⟨S7.out.cell 0 rfl, S7.out.cell 1 rfl⟩
 obtain ⟨av, cv, hvx⟩ := hO7.sts.sl
 subst hvx
 have O7 := hidP hO7
 clear hx hO7 hb7 HJ6
 refine hK _ _ (.inr HT7) ?_
 try simp only [Act.put, List.setIfInBounds_toArray, List.set_cons_zero, List.set_cons_succ]
 have e0 := K7.out.cell 0 (v := .int .i64 0) rfl
 have e1 := K7.out.cell 1 (v := .slice none 0 0) rfl
 have g0 := K7.out.fz 0
 have g1 := K7.out.fz 1
 refine anyL_one (i := 5) aZ5 (by kernel_rfl) rfl (fun K hK => ?_)
 go_simp
 have S8 : Blk ((w7.setCell ⟨w.heap.size + 1, 0, none⟩ (.int .i64 x.1)).setCell ⟨w.heap.size + 1, 1, none⟩ (.slice av x.2.length cv)) Sb #[.int .i64 (zn : Int), .slice aq n cq] 29 := (S7.out.setO _ _ (Ne.symm hRS)).setO _ _ (Ne.symm hRS)
 have HT8 : HeldQy Sb (zn : Int) (.slice aq n cq) ((w7.setCell ⟨w.heap.size + 1, 0, none⟩ (.int .i64 x.1)).setCell ⟨w.heap.size + 1, 1, none⟩ (.slice av x.2.length cv)) := ⟨S8.cell 0 rfl, S8.cell 1 rfl⟩
 refine hK _ _ (.inr HT8) ?_
 try simp only [Act.put, List.setIfInBounds_toArray, List.set_cons_zero, List.set_cons_succ]
 refine anyL_tk (i := 6) (v := ?v6_4) aZ6 (by kernel_rfl) ?y6_4 HT8 ?r6_4
 case y6_4 => intro wx hx; obtain ⟨h0, h1⟩ := hx; go_simp; try (with_reducible rfl)
 simp only [Act.put, List.setIfInBounds_toArray, List.set_cons_zero, List.set_cons_succ]
 refine anyL_tk (i := 7) (v := ?v7_5) aZ7 (by kernel_rfl) ?y7_5 HT8 ?r7_5
 case y7_5 => intro wx hx; obtain ⟨h0, h1⟩ := hx; go_simp; try (with_reducible rfl)
 simp only [Act.put, List.setIfInBounds_toArray, List.set_cons_zero, List.set_cons_succ]
 refine anyL_done (by kernel_rfl) (NoPanic.normal ?_)
 try simp only [Act.put, List.setIfInBounds_toArray, List.set_cons_zero, List.set_cons_succ]
 repeat (first | go_skip | go_guarded | go_step | go_upon)
 exact bodyPost_ret (res_mak _ _ (w.heap.size + 1) t 0 _ _ ((K7.out.set 0 (.int .i64 x.1)).set 1 (.slice av x.2.length cv)) rfl rfl rfl) rfl ⟨_, x, t, 0, rfl, HX.out, .inr ⟨_, rfl, ((O7.out.setM K7.out 0 _).setM (K7.out.set 0 _) 1 _).monoB (by have := B6.out.size; omega)⟩, (B7.out.setCell (p := ⟨w.heap.size + 1, 0, none⟩) (by show w.heap.size ≤ w.heap.size + 1; omega) _).setCell (p := ⟨w.heap.size + 1, 1, none⟩) (by show w.heap.size ≤ w.heap.size + 1; omega) _⟩
end Go.Proofs.YtfhjncpakgailaaGreatDoor.Wt
namespace Go.Proofs.YtfhjncpakgailaaGreatDoor.Pl
set_option linter.unusedVariables false
set_option linter.unusedSimpArgs false
section
variable {z : Int} {l : List St} {aa bs : List Bool}
theorem kept_nat {ks : List Int} (hks : ks = keptL aa bs l.length) {i : Nat} (hi : i < ks.length) : ∃ q : Nat, el ks i = (q : Int) ∧ q < l.length ∧ el aa q = true ∧ el bs q = true := by
 have := el_mem hi
 rw [hks] at this
 obtain ⟨q, h1, h2, h3, h4⟩ := keptL_mem this
 exact ⟨q, by rw [hks]; exact h1, h2, h3, h4⟩
theorem trim_way {ks : List Int} (hks : ks = keptL aa bs l.length) {i j c : Nat} {u v : List Int} (hi : i < ks.length) (h : Way (ks.map (trimS l ks)) i u v j c) : j < ks.length ∧ Way l (el ks i).toNat u v (el ks j).toNat c := by
  have hp : ks.Pairwise (· < ·) := by rw [hks]; exact keptL_sorted _ _ _
  induction h with
  | nil => exact ⟨hi, .nil⟩
  | snoc h ha ht ih =>
    rename_i u v p c a t
    obtain ⟨hpl, hw⟩ := ih
    rw [trim_el hpl] at ha
    obtain ⟨d, hd, rfl, h0⟩ := trimA_mem ha
    have hm := (placeI_nonneg hp).1 h0
    obtain ⟨k, hk, he, hpk⟩ := placeI_mem hp hm
    have hkt : k = t := by
      have : placeI ks d.2.2.2 = (t : Int) := ht
      omega
    subst hkt
    obtain ⟨q, hq, _⟩ := kept_nat hks hk
    exact ⟨hk, hw.snoc hd (by rw [he] at hq; rw [he, hq]; rfl)⟩
theorem way_trim (hf : faultM (z, l) = 0) (hA : Least (AheadC z l) l.length aa) (hB : Least (BackC l) l.length bs) {ks : List Int} (hks : ks = keptL aa bs l.length) {q p c : Nat} {u v : List Int} (hq : q < l.length) (ha : el aa q = true) (h : Way l q u v p c) :
    (p < l.length ∧ el aa p = true) ∧ (el bs p = true → el bs q = true ∧ ∀ i j : Nat, placeI ks (q : Int) = (i : Int) → placeI ks (p : Int) = (j : Int) → Way (ks.map (trimS l ks)) i u v j c) := by
  have hp : ks.Pairwise (· < ·) := by rw [hks]; exact keptL_sorted _ _ _
  induction h with
  | nil =>
    refine ⟨⟨hq, ha⟩, fun hb => ⟨hb, fun i j hi hj => ?_⟩⟩
    have hij : i = j := by omega
    rw [hij]
    exact .nil
  | snoc h hm ht ih =>
    rename_i u v p c a t
    obtain ⟨⟨hpl, hpa⟩, ih⟩ := ih
    obtain ⟨t', e1, e2⟩ := to_right hf hpl hm
    obtain rfl : t = t' := by omega
    have hta : el aa t = true := by
      have := hA.2.1.2 p hpl hpa a hm
      rwa [ht, Int.toNat_natCast] at this
    refine ⟨⟨e2, hta⟩, fun hb => ?_⟩
    have hpb : el bs p = true := hB.2.1.2 p hpl a hm (by rw [ht, Int.toNat_natCast]; exact hb)
    obtain ⟨hqb, hw⟩ := ih hpb
    refine ⟨hqb, fun i j hi hj => ?_⟩
    have hpm : (p : Int) ∈ ks := by rw [hks]; exact keptL_iff.2 ⟨hpl, hpa, hpb⟩
    obtain ⟨k, hk, hek, hpk⟩ := placeI_mem hp hpm
    have h1 := hw i k hi hpk
    have h2 : turnA ks a ∈ (el (ks.map (trimS l ks)) k).2 := by
      rw [trim_el hk, hek, Int.toNat_natCast]
      exact trimA_in hm (by rw [ht, hj]; omega)
    have h3 := h1.snoc h2 (t := j) (by unfold turnA; simp only; rw [ht, hj])
    exact h3
theorem costs_trim (hf : faultM (z, l) = 0) (hA : Least (AheadC z l) l.length aa) (hB : Least (BackC l) l.length bs) (x y : List Int) (c : Nat) : Costs (trimM z l (keptL aa bs l.length)) x y c ↔ Costs (z, l) x y c := by
 obtain ⟨ks, hks⟩ : ∃ ks, ks = keptL aa bs l.length := ⟨_, rfl⟩
 have hp : ks.Pairwise (· < ·) := by rw [hks]; exact keptL_sorted _ _ _
 rw [← hks]
 have hlen : (trimM z l ks).2.length = ks.length := by simp [trimM]
 constructor
 ·rintro ⟨h0, p, d, hw, hpl, hn, rfl⟩
  have h0' : 0 ≤ placeI ks z := h0
  obtain ⟨k, hk, hek, hpk⟩ := placeI_mem hp ((placeI_nonneg hp).1 h0')
  have hw' : Way (ks.map (trimS l ks)) k x y p d := by
   have e : (trimM z l ks).1.toNat = k := by show (placeI ks z).toNat = k; rw [hpk]; rfl
   rw [e] at hw
   exact hw
  obtain ⟨hpk', hwl⟩ := trim_way hks hk hw'
  obtain ⟨q, hq1, hq2, _⟩ := kept_nat hks hpk'
  obtain ⟨q0, hz1, hz2, _⟩ := kept_nat hks hk
  have hfin : (el (trimM z l ks).2 p).1 = (el l (el ks p).toNat).1 := by
   show (el (ks.map (trimS l ks)) p).1 = _
   rw [trim_el hpk']
  rw [hek] at hwl hz1
  refine ⟨by show 0 ≤ z; omega, (el ks p).toNat, d, hwl, by rw [hq1]; exact hq2, ?_, ?_⟩
  ·rw [← hfin]; exact hn
  ·rw [hfin]
 ·rintro ⟨h0, p, d, hw, hpl, hn, rfl⟩
  simp only at h0 hw hpl hn ⊢
  have hz := (right_parts hf).1
  simp only at hz
  have hzl : z.toNat < l.length := by omega
  have hza : el aa z.toNat = true := hA.2.1.1 z.toNat hzl (by omega)
  obtain ⟨⟨_, hpa⟩, hb⟩ := way_trim hf hA hB hks hzl hza hw
  have hpb : el bs p = true := hB.2.1.1 p hpl hn
  obtain ⟨hzb, hway⟩ := hb hpb
  have hzt : ((z.toNat : Nat) : Int) = z := by omega
  have hzm : (z.toNat : Int) ∈ ks := by rw [hks]; exact keptL_iff.2 ⟨hzl, hza, hzb⟩
  have hpm : (p : Int) ∈ ks := by rw [hks]; exact keptL_iff.2 ⟨hpl, hpa, hpb⟩
  obtain ⟨k, hk, hek, hpk⟩ := placeI_mem hp hzm
  obtain ⟨j, hj, hej, hpj⟩ := placeI_mem hp hpm
  have h1 := hway k j hpk hpj
  rw [hzt] at hpk
  have hfin : (el (trimM z l ks).2 j).1 = (el l p).1 := by
   show (el (ks.map (trimS l ks)) j).1 = _
   rw [trim_el hj, hej, Int.toNat_natCast]
  refine ⟨by show 0 ≤ placeI ks z; omega, j, d, ?_, by rw [hlen]; exact hj, by rw [hfin]; exact hn, by rw [hfin]⟩
  show Way (ks.map (trimS l ks)) (placeI ks z).toNat x y j d
  rw [hpk]
  exact h1
theorem trim_cheap {ks : List Int} (hks : ks = keptL aa bs l.length) (h : CheapL l) : CheapL (trimM z l ks).2 := fun s hs => by
 simp only [trimM, List.mem_map] at hs
 obtain ⟨x, hx, rfl⟩ := hs
 rw [hks] at hx
 obtain ⟨q, rfl, hq, _⟩ := keptL_mem hx
 unfold trimS
 rw [Int.toNat_natCast]
 refine ⟨(h _ (el_mem hq)).1, fun a ha => ?_⟩
 obtain ⟨d, hd, rfl, _⟩ := trimA_mem ha
 exact (h _ (el_mem hq)).2 d hd
end
section
variable {E : Nat → Nat → Nat → Prop}
inductive Via (E : Nat → Nat → Nat → Prop) (k : Nat) : Nat → Nat → Nat → Prop
 | nil (q : Nat) : Via E k q q 0
 | arc {q w p : Nat} (e : E q w p) : Via E k q p w
 | step {q w j p c : Nat} (e : E q w j) (hj : j < k) (h : Via E k j p c) : Via E k q p (w + c)
end
def empA (a : Ar) : Bool := decide (a.1 = 0) && decide (a.2.1 = 0)
def NoEmp (l : List St) : Prop := ∀ q, q < l.length → ∀ a ∈ (el l q).2, empA a = false
theorem made_noEmp (r : Int × List (Int × Bool × List Ar)) (states : Nat) : NoEmp (madeM r states true).2 := fun q hq a ha => by
 have hm := el_mem hq
 simp only [madeM, statesM, List.mem_map] at hm
 obtain ⟨k, _, e⟩ := hm
 have e' : (if r.2.length ≤ k then ((0, []) : St) else stM (sizeM r states) true (el r.2 k)) = el (madeM r states true).2 q := e
 rw [← e'] at ha
 split at ha
 ·exact absurd ha (by simp)
 ·simp only [stM, List.mem_map] at ha
  obtain ⟨x, _, rfl⟩ := ha
  unfold empA arM
  by_cases h1 : pkR x.1 3 = 0
  ·by_cases h2 : pkR x.2.1 3 = 0
   ·simp [h1, h2]
   ·simp [h2]
  ·simp [h1]
structure PshM (m x : Mc) (tot : Int) (T : Mc) (vs : List Int) : Prop where
 eqx : x = pshM vs T
 eqt : tot = pshT vs T
 pot : Pot T.2 vs
 least : ∀ q, q < T.2.length → LeastP (EndC T.2 q) (el vs q).toNat
 right : faultM T = 0
 rightx : faultM x = 0
 cheapx : CheapL x.2
 low : ∀ q, q < T.2.length → 0 ≤ el vs q ∧ el vs q ≤ 90
 start : T.1 < 0 ↔ T.2.length = 0
 stays : ∀ a b, Least (AheadC T.1 T.2) T.2.length a → Least (BackC T.2) T.2.length b → trmM T a b = T
 costs : ∀ X Y c, Costs T X Y c ↔ Costs m X Y c
 fin9 : ∀ s ∈ x.2, s.1 ≠ 1000000001 → s.1 ≤ 9
 allA : ∀ a, Least (AheadC T.1 T.2) T.2.length a → a = List.replicate T.2.length true
 allB : ∀ b, Least (BackC T.2) T.2.length b → b = List.replicate T.2.length true
theorem arcE_cheap {m : Mc} (hc : CheapL m.2) {k w j : Nat} (e : ArcE m.2 k w j) : w ≤ 8000 := by
 have hk := arcE_in e
 obtain ⟨a, ha, _, rfl⟩ := e
 have := (hc _ (el_mem hk)).2 a ha
 omega
theorem run_cheap {m : Mc} (hr : faultM m = 0) (hc : CheapL m.2) {s n q c : Nat} (hs : s < m.2.length) (h : Run (ArcE m.2) s n q c) : ∃ n' d, d ≤ 480000 ∧ d ≤ c ∧ Run (ArcE m.2) s n' q d := by
 have h60 := (right_size (z := m.1) (l := m.2) hr).1
 obtain ⟨n', d, hn, hd, h'⟩ := h.cheap hs (fun k w j e => (arcE_small hr e).1)
 have h1 := h'.cost (W := 8000) (fun k w j e => arcE_cheap hc e)
 have h2 : n' * 8000 ≤ 60 * 8000 := Nat.mul_le_mul_right _ (by omega)
 exact ⟨n', d, by omega, hd, h'⟩
theorem end_bound {m : Mc} (hr : faultM m = 0) (hc : CheapL m.2) {q c : Nat} (hq : q < m.2.length) (h : EndC m.2 q c) : ∃ d, d ≤ 100000000 ∧ EndC m.2 q d := by
 obtain ⟨n, p, d, h, hp, hf, rfl⟩ := h
 obtain ⟨n', d', hd, _, h'⟩ := run_cheap hr hc hq h
 have := (hc _ (el_mem hp)).1 hf
 exact ⟨d' + (el m.2 p).1.toNat, by omega, n', p, d', h', hp, hf, rfl⟩
theorem dst_cst {m : Mc} {P : Nat → Nat → Prop} {vs : List Int} {ec : Int} (hr : faultM m = 0) (hb : ∀ q, q < m.2.length → ∀ c, P q c → ∃ d, d ≤ 100000000 ∧ P q d) (h : DstAns m P vs ec) : ec = 0 ∧ vs.length = m.2.length ∧ ∀ q, q < m.2.length → CstIs (P q) (el vs q) := by
 rcases h with ⟨h, _⟩ | ⟨_, ⟨h1, h2, h3⟩ | ⟨_, _, q, hq, h4⟩⟩
 ·exact absurd hr h
 ·exact ⟨h1, h2, fun q hq => (cst_of (h3 q hq) (hb q hq)).2⟩
 ·exact absurd (cst_of h4 (hb q hq)).1 (by decide)
theorem end_cst {m : Mc} {vs : List Int} {ec : Int} (hr : faultM m = 0) (hc : CheapL m.2) (h : DstAns m (EndC m.2) vs ec) : ec = 0 ∧ vs.length = m.2.length ∧ ∀ q, q < m.2.length → CstIs (EndC m.2 q) (el vs q) := dst_cst hr (fun q hq c => end_bound hr hc hq) h
end Go.Proofs.YtfhjncpakgailaaGreatDoor.Pl
