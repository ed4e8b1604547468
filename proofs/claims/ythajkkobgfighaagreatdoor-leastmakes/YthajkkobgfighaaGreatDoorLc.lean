/- The reference's MadeLeast, for right machines that are certain. -/
import Derived.Test.YthajkkobgfighaaGreatDoorJaI
import Derived.Test.YthajkkobgfighaaGreatDoorJad
import Derived.Test.YthajkkobgfighaaGreatDoorJaA
import Derived.Test.YthajkkobgfighaaGreatDoorJah
import Derived.Test.YthajkkobgfighaaGreatDoorJaG
namespace Go.Proofs.YthajkkobgfighaaGreatDoor.Wt
open Go.ChangeShapes Go.WideShapes Go.ChangeAt Go.RowKit
open Go.Proofs.YthajkkobgfighaaGreatDoor.Pl
set_option linter.unusedVariables false
set_option linter.unusedSimpArgs false
theorem res_lst (tm : Array Value) (W : World) (R : Nat) (tot ec : Int) (x0 x1 : Value) (hB : Blk W R #[x0, x1] 24) (h2 : tm.getD 2 undef = .pointer (some ⟨R, 0, none⟩)) (h3 : tm.getD 3 undef = .int .i64 tot) (h4 : tm.getD 4 undef = .int .i64 ec) : (results Tryz.f6 tm).run Tryz.prog W = .ok (.tuple #[.agg #[x0, x1], .int .i64 tot, .int .i64 ec]) W := by
 have c0 := hB.cell 0 (v := x0) rfl
 have c1 := hB.cell 1 (v := x1) rfl
 simp only [Array.getD_eq_getD_getElem?] at h2 h3 h4
 simp [results, Tryz.results6, go_sem, h2, h3, h4, c0, c1]
def SmlEnd (m x : Mc) (tot ec : Int) : Prop := ∃ p t e, PshAns m p t e ∧
    ((e ≠ 0 ∧ x = (0, []) ∧ tot = 0 ∧ ec = e) ∨ (e = 0 ∧ p.1 < 0 ∧ x = srtM p ∧ tot = 0 ∧ ec = 0) ∨
      (e = 0 ∧ 0 ≤ p.1 ∧ (∃ f, FstC (srtM p).2 f ∧ lstA (srtM p).2 f p.1.toNat = (x, 0)) ∧ tot = t ∧ ec = 0))
theorem psh_none {m p : Mc} {t : Int} (h : PshAns m p t 0) (hz : p.1 < 0) : p.2 = [] := by
 rcases h with ⟨h0, _, _, h1⟩ | ⟨hf, aa, bs, vs, e, hA, hB, hD, h⟩
 ·exact absurd h1.symm h0
 ·obtain ⟨z, l⟩ := m
  obtain ⟨tz, tl, hT, hfT, hAT, hBT, hST, hzz, hlen⟩ := trimmed_facts hf hA hB
  have hT' : trmM (z, l) aa bs = (tz, tl) := hT
  rw [hT'] at hD h
  rcases h with ⟨k, _, _, k2⟩ | ⟨_, _, _, _, k⟩ | ⟨he, hO, hx, _, _⟩
  ·exact absurd k2.symm k
  ·cases k
  ·subst hx
   have h9 : tl.length = 0 := hzz.1 hz
   exact List.eq_nil_of_length_eq_zero (by rw [show (pshM vs (tz, tl)).2.length = tl.length from psh_length _ _]; exact h9)
theorem mach_noneL {w w' : World} {v : Value} {z : Int} (h : Mach w v (z, [])) : Mach w' v (z, []) := by
 obtain ⟨vs, h1, us, h2, h3, h4⟩ := h
 refine ⟨vs, h1, us, ?_, h3, fun j hj => absurd hj (by simp)⟩
 rcases h2 with h2 | ⟨x, cap, hv, hc⟩
 ·exact .inl h2
 ·exact .inr ⟨x, cap, hv, fun j hj => absurd hj (by rw [h3]; simp)⟩
structure HeldS (Sb : Nat) (vs : Value) (bL o : Nat) (t : Nat) (b o1 : Nat) (f1 : Int) (v1 : Value) (w : World) : Prop where
 h0 : w.cell? ⟨Sb, 1, none⟩ = some vs
 h1 : w.cell? ⟨bL, o, none⟩ = some (.int .i64 (t : Int))
 h2 : w.cell? ⟨b, o1, none⟩ = some (.int .i64 f1)
 h3 : w.cell? ⟨b, o1 + 1, none⟩ = some v1
theorem HeldS.later {Sb : Nat} {vs : Value} {bL o : Nat} {t : Nat} {b o1 : Nat} {f1 : Int} {v1 : Value} {w w' : World} (h : HeldS Sb vs bL o t b o1 f1 v1 w) (hb : Below w.heap.size w w') : HeldS Sb vs bL o t b o1 f1 v1 w' :=
 ⟨(hb.cell (World.block_lt_of_cell? _ _ h.h0)).trans h.h0, (hb.cell (World.block_lt_of_cell? _ _ h.h1)).trans h.h1, (hb.cell (World.block_lt_of_cell? _ _ h.h2)).trans h.h2, (hb.cell (World.block_lt_of_cell? _ _ h.h3)).trans h.h3⟩
set_option maxRecDepth 100000 in
set_option maxHeartbeats 12800000 in
theorem madeLeast_end (z : Int) (l : List St) (a : Option Addr) (cap : Nat) (w : World) (b1 b4 b5 : Bool)
  (hLK : ∀ W, Below w.heap.size w W → Calls Tryz.prog 13 #[.agg #[.int .i64 z, .slice a l.length cap]] W fun e w' => e = .returned (.tuple #[.agg #[.bool b1, .bool true, .bool true, .bool b4, .bool b5], .int .i64 0]) ∧ Below W.heap.size W w')
  (hPS : ∀ W, Below w.heap.size w W → Calls Tryz.prog 14 #[.agg #[.int .i64 z, .slice a l.length cap]] W fun e w' => PshRes (PshAns (z, l)) W e w')
  (hAR : ∀ W v p, Mach W v p → faultM p = 0 → Calls Tryz.prog 15 #[v, .int .i64 0] W fun e w' => ∃ v', e = .returned (.tuple #[v', .int .i64 0]) ∧ Mach w' v' (srtM p) ∧ Below W.heap.size W w') :
  Calls Tryz.prog 6 #[.agg #[.int .i64 z, .slice a l.length cap]] w fun e w' => PshOwn (SmlEnd (z, l)) w e w' := by
 have HLK := hidP hLK
 have HPS := hidP hPS
 have HAR := hidP hAR
 have HA1 : Hid (∀ p t e, PshAns (z, l) p t e → e ≠ 0 → SmlEnd (z, l) (0, []) 0 e) := fun p t e h he => ⟨p, t, e, h, .inl ⟨he, rfl, rfl, rfl⟩⟩
 have HA2 : Hid (∀ p t, PshAns (z, l) p t 0 → (srtM p).1 < 0 → (srtM p).2 = [] ∧ SmlEnd (z, l) (srtM p) 0 0) := fun p t h he => ⟨by have h9 := psh_none h he; simp [srtM, mapM, h9], p, t, 0, h, .inr (.inl ⟨rfl, he, rfl, rfl, rfl⟩)⟩
 have HA3 : Hid (∀ p t x, PshAns (z, l) p t 0 → 0 ≤ (srtM p).1 → (∃ f, FstC (srtM p).2 f ∧ lstA (srtM p).2 f (srtM p).1.toNat = (x, 0)) → SmlEnd (z, l) x t 0) := fun p t x h he hf => ⟨p, t, 0, h, .inr (.inr ⟨rfl, he, hf, rfl, rfl⟩)⟩
 have HFR : Hid (∀ p t, PshAns (z, l) p t 0 → faultM p = 0 ∧ faultM (srtM p) = 0) := fun p t h => ⟨psh_rights h, srt_right (psh_rights h)⟩
 have hnot : ∀ (x : Bool) (w : World), (Op.unary .not (.bool x)).run Tryz.prog w = .ok (.bool (!x)) w := fun _ _ => rfl
 clear hLK hPS hAR
 generalize l.length = nl at *
 go_enter Tryz.func6, Tryz.ntmps6
 go_upto_region 9 with (first
  | (go_at_call 13; (with_reducible refine (HLK.out _ (by go_grown)).mono ?_); rintro e w1 ⟨rfl, hb⟩; obtain ⟨s1, k0, k1, hb1⟩ := boxedTwo hb (by simp); have HB1 := hidP hb1; have K1 := hidP k1; have c0 := k0.cell 0 (v := .int .i64 z) rfl; have c1 := k0.cell 1 (v := .slice a nl cap) rfl; have l0 := k0.lt; clear hb hb1 k0 k1 HLK)
  | (go_at_call 14; (with_reducible refine (HPS.out _ (HB1.out.alloc HB1.out.size _)).mono ?_); rintro e w2 ⟨vp, p, t, ec, rfl, hq, hi, hb⟩; have HP2 := hidP hq; have HM2 := hidP hi; obtain ⟨vsp, rfl, hSp⟩ := hi; obtain ⟨ap, cp, rfl⟩ := hSp.sl; obtain ⟨s2, _, hb2⟩ := boxed hb (by simp); have K2 := hidP (K1.out.below hb2 K1.out.lt); have HB2 := hidP (HB1.out.trans (hb2.mono HB1.out.size)); clear hq hb hb2 hSp HPS))
 clear c0 c1 l0 s1 s2 HB1 K1
 by_cases he : ec = 0
 rotate_left
 ·have hne : (ec != 0) = true := by simpa using he
  have HAN := hidP (HA1.out p t ec HP2.out he)
  have e0 := K2.out.cell 0 (v := .int .i64 0) rfl
  have e1 := K2.out.cell 1 (v := .slice none 0 0) rfl
  have g0 := K2.out.fz 0
  have g1 := K2.out.fz 1
  have l1 := K2.out.lt
  clear he
  go_wp2
  exact bodyPost_ret (res_lst _ _ (w.heap.size + 1) 0 ec _ _ (((K2.out.set 0 (.int .i64 0)).set 1 (.slice none 0 0)).alloc _) rfl rfl rfl) rfl ⟨_, _, _, _, rfl, HAN.out, .inl ⟨rfl, mach_zeroR _⟩, ((HB2.out.setCell (p := ⟨w.heap.size + 1, 0, none⟩) (by show w.heap.size ≤ w.heap.size + 1; omega) _).setCell (p := ⟨w.heap.size + 1, 1, none⟩) (by show w.heap.size ≤ w.heap.size + 1; omega) _).alloc (by simp [World.setCell]; exact HB2.out.size) _⟩
 subst he
 obtain ⟨hfp, hfs⟩ := HFR.out p t HP2.out
 have HFP := hidP hfp
 have HFS := hidP hfs
 clear hfp hfs HFR HA1
 have K2l := K2.out.lt
 generalize p.2.length = np at *
 go_upto_region 12 with (first
  | (go_at_call 15; (with_reducible refine (HAR.out _ _ p (HM2.out.later ((Below.refl _ _).alloc (Nat.le_refl _) _) (Nat.le_refl _)) HFP.out).mono ?_); rintro e w3 ⟨vq, rfl, hi, hb⟩; have HM3 := hidP hi; obtain ⟨vsq, rfl, hSq⟩ := hi; obtain ⟨aq, cq, rfl⟩ := hSq.sl; obtain ⟨s3, _, hb3⟩ := boxed hb (by simp); have K3 := hidP (K2.out.below hb3 K2.out.lt); have HB3 := hidP (HB2.out.trans (hb3.mono HB2.out.size)); clear hb hb3 hSq HAR))
 clear s3 K2 HB2 HM2
 have HA2 := hidP (HA2.out p t HP2.out)
 have HA3 := hidP (fun x => HA3.out p t x HP2.out)
 obtain ⟨sm, hsm⟩ : ∃ sm, srtM p = sm := ⟨_, rfl⟩
 rw [hsm] at HFS HM3 HA2 HA3 ⊢
 clear hsm HP2 HFP
 obtain ⟨zs, ls⟩ := sm
 simp only at HM3 HA2 HA3 ⊢
 have K4 := hidP (K3.out.alloc (.cells #[.int .i64 zs, .slice aq ls.length cq] 24))
 have S4 := hidP (Blk.made w3 #[.int .i64 zs, .slice aq ls.length cq] 24)
 have B4 := hidP (HB3.out.alloc HB3.out.size (.cells #[.int .i64 zs, .slice aq ls.length cq] 24))
 have M4 := hidP (HM3.out.later ((Below.refl _ _).alloc (Nat.le_refl _) (.cells #[.int .i64 zs, .slice aq ls.length cq] 24)) (Nat.le_refl _))
 have hR3 : w.heap.size + 1 < w3.heap.size := K3.out.lt
 clear K3 HB3 HM3
 generalize w3.alloc (.cells #[.int .i64 zs, .slice aq ls.length cq] 24) = w4 at *
 obtain ⟨Sb, hSb⟩ : ∃ Sb, Sb = w3.heap.size := ⟨_, rfl⟩
 rw [← hSb] at S4 hR3 ⊢
 clear hSb
 have q0 := S4.out.cell 0 (v := .int .i64 zs) rfl
 have q1 := S4.out.cell 1 (v := .slice aq ls.length cq) rfl
 have Sl := S4.out.lt
 by_cases hz : zs < 0
 ·obtain ⟨hnil, hend⟩ := HA2.out hz
  have hnil : ls = [] := hnil
  subst hnil
  have HAN := hidP hend
  clear hend HA2 HA3
  have e0 := K4.out.cell 0 (v := .int .i64 0) rfl
  have e1 := K4.out.cell 1 (v := .slice none 0 0) rfl
  have g0 := K4.out.fz 0
  have g1 := K4.out.fz 1
  go_wp2
  exact bodyPost_ret (res_lst _ _ (w.heap.size + 1) 0 0 _ _ ((K4.out.set 0 (.int .i64 zs)).set 1 (.slice aq ([] : List St).length cq)) rfl rfl rfl) rfl ⟨_, _, _, _, rfl, HAN.out, .inl ⟨rfl, mach_noneL M4.out⟩, (B4.out.setCell (p := ⟨w.heap.size + 1, 0, none⟩) (by show w.heap.size ≤ w.heap.size + 1; omega) _).setCell (p := ⟨w.heap.size + 1, 1, none⟩) (by show w.heap.size ≤ w.heap.size + 1; omega) _⟩
 have hz0 : 0 ≤ zs := by omega
 obtain ⟨zn, rfl⟩ : ∃ zn : Nat, zs = (zn : Int) := ⟨zs.toNat, by omega⟩
 have HA3 := hidP (fun x h => HA3.out x hz0 h)
 rw [Int.toNat_natCast] at HA3
 have hzl : zn < ls.length := by have h9 := (right_parts HFS.out).1.2; simp only at h9; omega
 have h60 : ls.length ≤ 60 := (right_size HFS.out).1
 obtain ⟨f, hf⟩ := cls_exists (to_of HFS.out)
 have HF := hidP hf
 have HTA := hidP (fun W hW => tellApart_any (zn : Int) ls aq cq W (M4.out.later hW (Nat.le_refl _)) HFS.out)
 clear hf hz HA2 hz0
 obtain ⟨n, hn⟩ : ∃ n, ls.length = n := ⟨_, rfl⟩
 have HN := hidP hn
 rw [hn] at M4 S4 q1 hzl h60 HTA ⊢
 clear hn
 go_upto_region 15 with (first
  | (go_at_call 16; (with_reducible refine (HTA.out _ (Below.refl _ _)).mono ?_); rintro e w5 ⟨vt, gs, d, rfl, hG, ⟨hdl, hd⟩, hb⟩; have HG := hidP hG; have HD := hidP hd; have S5 := hidP (S4.out.below hb S4.out.lt); have K5 := hidP (K4.out.below hb K4.out.lt); have M5 := hidP (M4.out.later hb (Nat.le_refl _)); have B5 := hidP (B4.out.trans (hb.mono B4.out.size)); have hs5 := hb.size; clear hG hd hb HTA))
 clear q0 q1
 have q0 := S5.out.cell 0 (v := .int .i64 (zn : Int)) rfl
 have Sl5 := S5.out.lt
 clear S4 K4 M4 B4
 obtain ⟨at', ct, hvt⟩ := HG.out.sl
 rw [hdl] at hvt
 subst hvt
 have HT0 : Hid (LmAt w5 ((w5.alloc (.cells #[.int .i64 (zn : Int)] 3)).alloc (.cells #[.int .i64 0, .slice none 0 0] 24)) (w5.heap.size + 1) (.slice none 0 0) [] (.slice (some ⟨w5.heap.size, 0, none⟩) 1 1) [zn]) := by
  have k1 := Blk.made (w5.alloc (.cells #[.int .i64 (zn : Int)] 3)) #[.int .i64 0, .slice none 0 0] 24
  rw [World.size_alloc] at k1
  exact ⟨k1, OwnSts.nil _ _, (OwnZ.one w5 zn (Nat.le_refl _)).later ((Below.refl _ _).alloc (Nat.le_refl _) _), ((Below.refl _ _).alloc (Nat.le_refl _) _).alloc (by simp) _, by omega⟩
 have HI0 := hidP (BfsI.init (l := ls) (f := f) (s := zn) (by rw [HN.out]; exact hzl))
 go_wp2
 generalize w5.heap.size + 1 = M at *
 go_loopw [12, 14] (fun s12 s14 wr => ∃ (q nn : Nat) (vl vm : Value) (L : List Nat) (S : List St), vl = s12 ∧ s14 = .int .i64 (q : Int) ∧ Hid (BfsI ls f zn q L S nn) ∧ Hid (LmAt w5 wr M vm S vl L)) (fun _ s14 _ => 61 - (intOf s14).toNat)
 case atStart => exact ⟨0, 0, _, _, [zn], [], rfl, rfl, HI0, HT0⟩
 case round =>
  clear HI0 HT0 q0
  obtain ⟨q, nn, vl, vm, L, S, rfl, rfl, hI, hT⟩ := hrel
  obtain ⟨w6, hw6⟩ : ∃ w6, w6 = wr := ⟨_, rfl⟩
  subst hw6
  obtain ⟨hl60, hn4, hSl, hqL⟩ := hI.out.l60
  obtain ⟨al, cl, hvl⟩ := hT.out.trs.sl
  subst hvl
  by_cases hlt : q < L.length
  ·have q0 : (0 : Int) ≤ (q : Int) := Int.natCast_nonneg _
   have q1 : (q : Int) < (L.length : Int) := by omega
   obtain ⟨bL, oL, hbL, hbLl, c0⟩ := hT.out.trs.cell hlt
   subst hbL
   have hol : el L q < n := by rw [← HN.out]; exact hI.out.low _ (el_mem hlt)
   have S6 := hidP (S5.out.below hT.out.below Sl5)
   have G6 := hidP (HG.out.later hT.out.below)
   have m1 := S6.out.cell 1 (v := .slice aq n cq) rfl
   obtain ⟨vs9, hvs9, hSt9⟩ := M5.out
   simp only [Value.agg.injEq, Array.mk.injEq, List.cons.injEq, and_true, true_and] at hvs9
   subst hvs9
   obtain ⟨a9, c9, hsl9, hc9⟩ := hSt9.get
   simp only [Value.slice.injEq] at hsl9
   obtain ⟨rfl, hx9, rfl⟩ := hsl9
   clear hx9
   obtain ⟨b, off, va, hab, hbl, g0, g1, gA⟩ := hc9 (el L q) (by rw [HN.out]; exact hol)
   subst hab
   have GA := hidP gA
   have g0 := (hT.out.below.cell (p := ⟨b, off + el L q * 2, none⟩) hbl).trans g0
   have g1 := (hT.out.below.cell (p := ⟨b, off + el L q * 2 + 1, none⟩) hbl).trans g1
   have HDN := hidP (fun Lc ar (h : ArcI ls f L (el L q) (el ls (el L q)).2.length Lc ar) => ArcI.done HFS.out HF.out (by rw [HN.out]; exact hzl) hI.out hlt h)
   have HLN := hidP (fun i Lc ar (h : ArcI ls f L (el L q) i Lc ar) hi => ArcI.len HFS.out HF.out (by rw [HN.out]; exact hzl) hI.out hlt h hi)
   have A0 := hidP (ArcI.init (o := el L q) hI.out)
   have HTO : Hid (∀ i, i < (el ls (el L q)).2.length → ∃ t : Nat, (el (el ls (el L q)).2 i).2.2.2 = (t : Int) ∧ t < n) := fun i hi => by have h9 := to_of HFS.out (el L q) (by rw [HN.out]; exact hol) _ (el_mem hi); rw [HN.out] at h9; exact h9
   have h400 : (el ls (el L q)).2.length ≤ 400 := (right_states HFS.out (el L q) (by simp only; rw [HN.out]; exact hol)).2.1
   clear hSt9 hc9 gA
   obtain ⟨o, ho⟩ : ∃ o, el L q = o := ⟨_, rfl⟩
   rw [ho] at c0 hol g0 g1 GA HDN HLN A0 HTO h400
   clear ho
   obtain ⟨so, hso⟩ : ∃ so, el ls o = so := ⟨_, rfl⟩
   have HSO := hidP hso
   rw [hso] at g0 GA HDN HLN HTO h400
   clear hso
   obtain ⟨fin, ar⟩ := so
   simp only at g0 GA HDN HLN HTO h400
   obtain ⟨aa, ca, hva, hca⟩ := GA.out.get
   subst hva
   have HCA := hidP hca
   clear hca
   obtain ⟨nA, hnA⟩ : ∃ nA, ar.length = nA := ⟨_, rfl⟩
   have HNA := hidP hnA
   rw [hnA] at g1 GA HDN HLN HTO h400 HCA
   clear hnA
   have o0 : (0 : Int) ≤ (o : Int) := Int.natCast_nonneg _
   have o1 : (o : Int) < (n : Int) := by omega
   have HS : HeldS Sb (.slice (some ⟨b, off, none⟩) n cq) bL (oL + q) o b (off + o * 2) fin (.slice aa nA ca) w6 := ⟨m1, c0, g0, g1⟩
   have hB7 : Below w6.heap.size w6 (w6.alloc (.cells #[.int .i64 fin, .slice aa nA ca] 33)).drew := ((Below.refl w6.heap.size w6).alloc (Nat.le_refl _) _).drew
   have T7 := hidP (hT.out.later hB7)
   have O7 : Hid (Blk (w6.alloc (.cells #[.int .i64 fin, .slice aa nA ca] 33)).drew w6.heap.size #[.int .i64 fin, .slice aa nA ca] 33) := Blk.made w6 #[.int .i64 fin, .slice aa nA ca] 33
   have HSd : HeldS Sb (.slice (some ⟨b, off, none⟩) n cq) bL (oL + q) o b (off + o * 2) fin (.slice aa nA ca) w6.drew := HS.later (Below.refl w6.heap.size w6).drew
   have HSa : HeldS Sb (.slice (some ⟨b, off, none⟩) n cq) bL (oL + q) o b (off + o * 2) fin (.slice aa nA ca) (w6.alloc (.cells #[.int .i64 fin, .slice aa nA ca] 33)).drew := HS.later hB7
   clear m1 c0 g0 g1 GA HS hB7
   go_wp2
   refine region_anyL (HeldS Sb (.slice (some ⟨b, off, none⟩) n cq) bL (oL + q) o b (off + o * 2) fin (.slice aa nA ca)) 1000 (by kernel_rfl) ?_
   refine anyL_tk (i := 0) (v := ?v0_1) aZ0 (by kernel_rfl) ?y0_1 HSd ?r0_1
   case y0_1 => intro wx hx; obtain ⟨h0, h1, h2, h3⟩ := hx; go_simp; try (with_reducible rfl)
   simp only [Act.put, List.setIfInBounds_toArray, List.set_cons_zero, List.set_cons_succ]
   refine anyL_tk (i := 1) (v := ?v1_2) aZ1 (by kernel_rfl) ?y1_2 HSd ?r1_2
   case y1_2 => intro wx hx; obtain ⟨h0, h1, h2, h3⟩ := hx; go_simp; try (with_reducible rfl)
   simp only [Act.put, List.setIfInBounds_toArray, List.set_cons_zero, List.set_cons_succ]
   refine anyL_tk (i := 2) (v := ?v2_3) aZ2 (by kernel_rfl) ?y2_3 HSd ?r2_3
   case y2_3 => intro wx hx; obtain ⟨h0, h1, h2, h3⟩ := hx; go_simp; try (with_reducible rfl)
   simp only [Act.put, List.setIfInBounds_toArray, List.set_cons_zero, List.set_cons_succ]
   refine anyL_tk (i := 3) (v := ?v3_4) aZ3 (by kernel_rfl) ?y3_4 HSd ?r3_4
   case y3_4 => intro wx hx; obtain ⟨h0, h1, h2, h3⟩ := hx; go_simp; try (with_reducible rfl)
   simp only [Act.put, List.setIfInBounds_toArray, List.set_cons_zero, List.set_cons_succ]
   refine anyL_tk (i := 4) (v := ?v4_5) aZ4 (by kernel_rfl) ?y4_5 HSd ?r4_5
   case y4_5 => intro wx hx; obtain ⟨h0, h1, h2, h3⟩ := hx; go_simp; try (with_reducible rfl)
   simp only [Act.put, List.setIfInBounds_toArray, List.set_cons_zero, List.set_cons_succ]
   refine anyL_tk (i := 5) (v := ?v5_6) aZ5 (by kernel_rfl) ?y5_6 HSd ?r5_6
   case y5_6 => intro wx hx; obtain ⟨h0, h1, h2, h3⟩ := hx; go_simp; try (with_reducible rfl)
   simp only [Act.put, List.setIfInBounds_toArray, List.set_cons_zero, List.set_cons_succ]
   refine anyL_tk (i := 6) (v := ?v6_7) aZ6 (by kernel_rfl) ?y6_7 HSd ?r6_7
   case y6_7 => intro wx hx; obtain ⟨h0, h1, h2, h3⟩ := hx; go_simp; try (with_reducible rfl)
   simp only [Act.put, List.setIfInBounds_toArray, List.set_cons_zero, List.set_cons_succ]
   refine anyL_tk (i := 7) (v := ?v7_8) aZ7 (by kernel_rfl) ?y7_8 HSd ?r7_8
   case y7_8 => intro wx hx; obtain ⟨h0, h1, h2, h3⟩ := hx; go_simp; try (with_reducible rfl)
   simp only [Act.put, List.setIfInBounds_toArray, List.set_cons_zero, List.set_cons_succ]
   refine anyL_one (i := 8) aZ8 (by kernel_rfl) rfl (fun K hK => ?_)
   go_simp
   refine hK _ _ (.inr (HSd.later ((Below.refl _ _).alloc (Nat.le_refl _) _))) ?_
   try simp only [Act.put, List.setIfInBounds_toArray, List.set_cons_zero, List.set_cons_succ]
   refine anyL_one (i := 9) aZ9 (by kernel_rfl) rfl (fun K hK => ?_)
   go_simp
   refine hK _ _ (.inr HSa) (anyL_done (by kernel_rfl) (NoPanic.normal ?_))
   try simp only [Act.put, List.setIfInBounds_toArray, List.set_cons_zero, List.set_cons_succ]
   clear HSd HSa
   generalize (w6.alloc (.cells #[.int .i64 fin, .slice aa nA ca] 33)).drew = w7 at *
   obtain ⟨Ob, hOb⟩ : ∃ Ob, Ob = w6.heap.size := ⟨_, rfl⟩
   rw [← hOb] at O7 ⊢
   clear hOb
   have x0 := O7.out.cell 0 (v := .int .i64 fin) rfl
   have Ol := O7.out.lt
   have E7 := hidP (T7.out.enter fin)
   have K7 := hidP (T7.out.trs)
   go_wp2
   obtain ⟨Tb, hTb⟩ : ∃ Tb, Tb = w7.heap.size := ⟨_, rfl⟩
   rw [← hTb] at E7 Ol ⊢
   have HTb := hidP hTb
   clear hTb x0
   obtain ⟨r0, hr0⟩ : ∃ r0, (Value.slice (some ⟨bL, oL, none⟩) L.length cl).ownBlock = r0 := ⟨_, rfl⟩
   have HR0 := hidP hr0
   rw [hr0] at E7
   clear hr0
   go_loopw [12, 17] (fun s12 s17 wr => ∃ (i : Nat) (vl va : Value) (Lc : List Nat) (ac : List Ar), vl = s12 ∧ s17 = .int .i64 (i : Int) ∧ i ≤ nA ∧ Hid (ArcI ls f L o i Lc ac) ∧ Hid (LmIn w7 wr r0 w5.heap.size Tb fin va ac vl Lc)) (fun _ s17 _ => nA - (intOf s17).toNat)
   case atStart => exact ⟨0, _, _, L, [], rfl, rfl, Nat.zero_le _, A0, E7⟩
   case round =>
    clear E7 A0
    obtain ⟨i, vl, va, Lc, ac, rfl, rfl, hi, hA, hE⟩ := hrel
    obtain ⟨w8, hw8⟩ : ∃ w8, w8 = wr := ⟨_, rfl⟩
    subst hw8
    obtain ⟨hLc, hac⟩ := HLN.out i Lc ac hA.out hi
    have T8 := hidP (T7.out.meanwhile (by rw [HR0.out]; exact hE.out.grow) hE.out.trs)
    have O8 := hidP (O7.out.grown hE.out.grow (by rw [← HR0.out]; exact own_ne K7.out O7.out (by decide)))
    have y1 := O8.out.cell 1 (v := .slice aa nA ca) rfl
    obtain ⟨a8, c8, hv8⟩ := hE.out.trs.sl
    subst hv8
    by_cases hil : i < nA
    ·have i0 : (0 : Int) ≤ (i : Int) := Int.natCast_nonneg _
     have i1 : (i : Int) < (nA : Int) := by omega
     obtain ⟨b6, o6, hab6, hb6l, p0, p1, p2, p3⟩ := HCA.out i hil
     subst hab6
     have p0 := (T8.out.below.cell (p := ⟨b6, o6 + i * 4, none⟩) hb6l).trans p0
     have p1 := (T8.out.below.cell (p := ⟨b6, o6 + i * 4 + 1, none⟩) hb6l).trans p1
     have p2 := (T8.out.below.cell (p := ⟨b6, o6 + i * 4 + 2, none⟩) hb6l).trans p2
     have p3 := (T8.out.below.cell (p := ⟨b6, o6 + i * 4 + 3, none⟩) hb6l).trans p3
     obtain ⟨tt, htt, httn⟩ := HTO.out i hil
     have HOL := hidP (fun j hj hjt => hA.out.old (by rw [HSO.out]; simp only; rw [HNA.out]; exact hil) (t := tt) (by rw [HSO.out]; exact htt) (j := j) hj hjt)
     have HNE := hidP (fun hno => hA.out.new (by rw [HSO.out]; simp only; rw [HNA.out]; exact hil) (t := tt) (by rw [HSO.out]; exact htt) (by rw [HN.out]; exact httn) hno)
     rw [HSO.out] at HOL HNE
     simp only at HOL HNE
     rw [htt] at p3
     obtain ⟨pp, hpp⟩ : ∃ pp, el ar i = pp := ⟨_, rfl⟩
     rw [hpp] at p0 p1 p2 HOL HNE
     clear hpp htt
     obtain ⟨x0, x1, x2, x3⟩ := pp
     simp only at p0 p1 p2 HOL HNE
     have hLow := hidP hA.out.low
     have hA9 := (Below.refl w8.heap.size w8).alloc (Nat.le_refl _) (.cells #[.int .i64 x0, .int .i64 x1, .int .i64 x2, .int .i64 (tt : Int)] 48)
     have E9 := hidP (hE.out.later hA9)
     have X9 := hidP (Blk.made w8 #[.int .i64 x0, .int .i64 x1, .int .i64 x2, .int .i64 (tt : Int)] 48)
     have G9 := hidP (HG.out.later (T8.out.below.trans (hA9.mono T8.out.below.size)))
     have HND : Hid ((Lc.map f).Nodup) := by (show List.Nodup _); rw [hA.out.lst]; exact hpL_nodup hA.out.nodup _
     have HFN : Hid (∀ k, k < Lc.length → fndG (Lc.map f) (f tt) (k + 1) = if tabU d (el Lc k) tt = false then (k : Int) else fndG (Lc.map f) (f tt) k) := fun k hk => by
      have hlk := hLow.out _ (el_mem hk)
      have h1 : (el (Lc.map f) k = f tt) ↔ tabU d (el Lc k) tt = false := by
       rw [el_map hk, HF.out.one _ _ hlk (by rw [HN.out]; exact httn)]
       have h2 := HD.out (el Lc k) tt (by rw [HN.out] at hlk; exact hlk) httn
       unfold Alk
       rw [← h2]
       simp
      have e0 : fndG (Lc.map f) (f tt) (k + 1) = if el (Lc.map f) k = f tt then (k : Int) else fndG (Lc.map f) (f tt) k := rfl
      rw [e0]
      by_cases e : el (Lc.map f) k = f tt
      ·rw [if_pos e, if_pos (h1.1 e)]
      ·rw [if_neg e, if_neg (fun g => e (h1.2 g))]
     have HF0 : Hid (fndG (Lc.map f) (f tt) 0 = -1) := rfl
     have HFA := hidP (fndG_all HND.out (f tt) Lc.length (by rw [List.length_map]; exact Nat.le_refl _))
     have HAC := hidP hac
     have hLl : Hid (∀ k, k < Lc.length → el Lc k < n) := fun k hk => by have h9 := hLow.out _ (el_mem hk); rw [HN.out] at h9; exact h9
     clear hA9 hA hE hac hLow O8
     go_wp2
     clear p0 p1 p2 p3 y1
     generalize w8.alloc (.cells #[.int .i64 x0, .int .i64 x1, .int .i64 x2, .int .i64 (tt : Int)] 48) = w9 at *
     obtain ⟨Ab, hAb⟩ : ∃ Ab, Ab = w8.heap.size := ⟨_, rfl⟩
     rw [← hAb] at X9 ⊢
     clear hAb
     obtain ⟨fG, hfG⟩ : ∃ fG, fndG (Lc.map f) (f tt) = fG := ⟨_, rfl⟩
     rw [hfG] at HFN HF0 HFA
     clear hfG
     go_loopw [19, 20] (fun s19 s20 wr => ∃ (k qd : Nat), s19 = .int .i64 (fG k) ∧ s20 = .int .i64 (k : Int) ∧ k ≤ Lc.length ∧ wr = w9.drewN qd) (fun _ s20 _ => Lc.length - (intOf s20).toNat)
     case atStart => exact ⟨0, 0, by rw [HF0.out], rfl, Nat.zero_le _, (World.drewN_zero w9).symm⟩
     case round =>
      obtain ⟨k, qd, rfl, rfl, hk, rfl⟩ := hrel
      by_cases hkl : k < Lc.length
      ·have hlk := hLl.out k hkl
       obtain ⟨bT, oT, haT, _, u0⟩ := E9.out.trs.cell hkl
       subst haT
       obtain ⟨Gb, cG, hve, hGb, hGl, hcs⟩ := G9.out.cells (by omega)
       rw [hdl] at hve hcs
       simp only [Value.slice.injEq, true_and] at hve
       obtain ⟨hva, hvc⟩ := hve
       subst hva
       subst hvc
       have cq := hcs (el Lc k) hlk
       have c1 := G9.out.get (q := el Lc k) (p := tt) (by omega) httn
       have HFK := hidP (HFN.out k hkl)
       have HTU : Hid (tabU d (el Lc k) tt = el (el d (el Lc k)) tt) := rfl
       have z3 := X9.out.cell 3 (v := .int .i64 (tt : Int)) rfl
       rw [HTU.out] at HFK
       obtain ⟨bo, hbo⟩ : ∃ bo, el (el d (el Lc k)) tt = bo := ⟨_, rfl⟩
       rw [hbo] at c1 HFK
       obtain ⟨gq, hgq⟩ : ∃ gq, el gs (el Lc k) = gq := ⟨_, rfl⟩
       rw [hgq] at cq c1
       obtain ⟨tk, htk⟩ : ∃ tk, el Lc k = tk := ⟨_, rfl⟩
       rw [htk] at u0 cq hlk
       clear hcs hbo hgq htk HTU
       have u0' : (w9.drewN qd).cell? ⟨bT, oT + k, none⟩ = some (.int .i64 (tk : Int)) := u0
       have cq' : (w9.drewN qd).cell? ⟨Gb, tk, none⟩ = some (.slice (some ⟨gq, 0, none⟩) n n) := cq
       have c1' : (w9.drewN qd).cell? ⟨gq, tt, none⟩ = some (.bool bo) := c1
       have z3' : (w9.drewN qd).cell? ⟨Ab, 3, none⟩ = some (.int .i64 (tt : Int)) := z3
       have k0 : (0 : Int) ≤ (k : Int) := Int.natCast_nonneg _
       have k1 : (k : Int) < ((Lc.length : Nat) : Int) := by omega
       have t0 : (0 : Int) ≤ (tk : Int) := Int.natCast_nonneg _
       have t1 : (tk : Int) < (n : Int) := by omega
       have t2 : (0 : Int) ≤ (tt : Int) := Int.natCast_nonneg _
       have t3 : (tt : Int) < (n : Int) := by omega
       cases bo
       ·rw [if_pos rfl] at HFK
        go_wp2
        go_quiet (fail)
        go_wp2
        go_roundw
        case rel => exact ⟨k + 1, qd + nq, by rw [HFK.out], by go_num, by omega, by first | rfl | rw [World.drewN_drewN]⟩
        case measure => simp [intOf]; omega
       ·rw [if_neg (by decide)] at HFK
        go_wp2
        go_quiet (fail)
        go_wp2
        go_roundw
        case rel => exact ⟨k + 1, qd + nq, by rw [HFK.out], by go_num, by omega, by first | rfl | rw [World.drewN_drewN]⟩
        case measure => simp [intOf]; omega
      ·have hnk : ¬ (k : Int) < ((Lc.length : Nat) : Int) := by omega
       obtain rfl : k = Lc.length := by omega
       have E10 := hidP (E9.out.drewN qd)
       have X10 : Hid (Blk (w9.drewN qd) Ab #[.int .i64 x0, .int .i64 x1, .int .i64 x2, .int .i64 (tt : Int)] 48) := X9.out
       clear E9 X9 HFN HF0 HND hLl T8
       obtain ⟨w10, hw10⟩ : ∃ w10, w9.drewN qd = w10 := ⟨_, rfl⟩
       rw [hw10] at E10 X10 ⊢
       clear hw10 G9 hk hnk
       obtain ⟨fx, hfx⟩ : ∃ fx, fG Lc.length = fx := ⟨_, rfl⟩
       rw [hfx] at HFA ⊢
       clear hfx
       go_upto_if 112 with fail
       go_cut [12, 19] (fun s12 s19 wx => ∃ (a9 : Option Addr) (c9 : Nat) (L2 : List Nat) (jx : Nat), s12 = .slice a9 L2.length c9 ∧ s19 = .int .i64 (jx : Int) ∧ Hid (ArcI ls f L o (i + 1) L2 (ac ++ [(x0, x1, x2, (jx : Int))])) ∧ Hid (LmIn w7 wx r0 w5.heap.size Tb fin va ac (.slice a9 L2.length c9) L2) ∧ Hid (Blk wx Ab #[.int .i64 x0, .int .i64 x1, .int .i64 x2, .int .i64 (tt : Int)] 48))
       case first =>
        by_cases hmem : ∃ j, j < Lc.length ∧ el (Lc.map f) j = f tt ∧ fx = (j : Int)
        ·obtain ⟨j, hj, hje, rfl⟩ := hmem
         have HA2 := hidP (HOL.out j hj (by rw [← hje, el_map hj]))
         have hj0 : ¬ (j : Int) < 0 := by omega
         clear hje HFA
         go_wp2
         go_meet
         case rel => exact ⟨a8, c8, Lc, j, rfl, rfl, HA2, E10, X10⟩
        ·obtain ⟨hno, hfx⟩ : (∀ j, j < Lc.length → el (Lc.map f) j ≠ f tt) ∧ fx = -1 := by
          rcases HFA.out with g | g
          ·exact absurd g hmem
          ·exact g
         subst hfx
         have HA2 := hidP (HNE.out (fun j hj g => hno j hj (by rw [el_map hj]; exact g)))
         obtain ⟨v9, w11, r9, hE9, hg9⟩ := E10.out.pushZ tt (by omega) (by have := T7.out.below.size; omega)
         have X11 := hidP ((X10.out.alloc (.cells (encZ tt).toArray 3)).grown hg9 (own_ne (E10.out.later ((Below.refl w10.heap.size w10).alloc (Nat.le_refl _) (.cells (encZ tt).toArray 3))).trs (X10.out.alloc _) (by decide)))
         simp only [encZ] at r9
         have HR9 := hidP r9
         obtain ⟨a9, c9, hv9⟩ := hE9.trs.sl
         subst hv9
         have E11 := hidP hE9
         have z3 := X10.out.cell 3 (v := .int .i64 (tt : Int)) rfl
         clear r9 hE9 hmem hno HFA hg9
         go_wp2_with (first | (at_builtin; refine wpListAppendRun rfl _ _ 38 rfl rfl rfl HR9.out ?_))
         go_meet
         case rel => exact ⟨a9, c9, Lc ++ [tt], Lc.length, by simp, rfl, HA2, E11, X11⟩
       case rest =>
        obtain ⟨a9, c9, L2, jx, rfl, rfl, A11, E11, X11⟩ := hcut
        obtain ⟨w11, hw11⟩ : ∃ w11, w11 = wc := ⟨_, rfl⟩
        subst hw11
        clear E10 X10 HFA HOL HNE
        obtain ⟨v12, w12, r12, hg12, hs12, hE12⟩ := E11.out.pushA (x0, x1, x2, (jx : Int)) (by rw [HAC.out]; omega)
        obtain ⟨a12, c12, hv12⟩ := hE12.arcs.sl
        rw [show (ac ++ [(x0, x1, x2, (jx : Int))]).length = i + 1 by rw [List.length_append, HAC.out]; rfl] at hv12
        subst hv12
        have E12 := hidP hE12
        simp only [encA] at r12
        have HR12 := hidP r12
        obtain ⟨av, cv, hva⟩ := E11.out.arcs.sl
        rw [HAC.out] at hva
        subst hva
        have s1 := E11.out.sb.cell 1 (v := .slice av i cv) rfl
        have z0 := X11.out.cell 0 (v := .int .i64 x0) rfl
        have z1 := X11.out.cell 1 (v := .int .i64 x1) rfl
        have z2 := X11.out.cell 2 (v := .int .i64 x2) rfl
        have y1 := hs12.cell 1 (v := .slice av i cv) rfl
        have y2 := hs12.fz 1
        clear r12 hE12 hg12 E11 X11
        go_wp2_with (first | (at_builtin; refine wpListAppendRun rfl _ _ 31 rfl rfl rfl HR12.out ?_))
        go_roundw
        case rel => exact ⟨i + 1, _, _, L2, _, rfl, by go_num, by omega, A11, E12⟩
        case measure => simp [intOf]; omega
    ·have hnl : ¬ (i : Int) < (nA : Int) := by omega
     obtain rfl : i = nA := by omega
     have HNX := hidP (HDN.out Lc ac hA.out)
     obtain ⟨v11, w11, r11, hM11, hT11⟩ := T8.out.push (fin, ac) (OwnArcs.mono hE.out.arcs T7.out.below.size) (by omega)
     simp only at r11
     have HR11 := hidP r11
     obtain ⟨a11, c11, hv11⟩ := hT11.sts.sts.sl
     rw [show (S ++ [(fin, ac)]).length = q + 1 by rw [List.length_append, hSl]; rfl] at hv11
     subst hv11
     have HT11 := hidP hT11
     obtain ⟨am, cm, hvm⟩ := hT.out.sts.sts.sl
     rw [hSl] at hvm
     subst hvm
     obtain ⟨av, cv, hva⟩ := hE.out.arcs.sl
     rw [hac] at hva
     subst hva
     have m1 := T8.out.bxM.cell 1 (v := .slice am q cm) rfl
     have b0 := hE.out.sb.cell 0 (v := .int .i64 fin) rfl
     have b1 := hE.out.sb.cell 1 (v := .slice av i cv) rfl
     have m2 := hM11.cell 1 (v := .slice am q cm) rfl
     have m3 := hM11.fz 1
     clear r11 hT11 hA hE hT hac hSl
     go_wp2_with (first | (at_builtin; refine wpListAppendRun rfl _ _ 22 rfl rfl rfl HR11.out ?_))
     go_roundw
     case rel => exact ⟨q + 1, nn + i, _, _, Lc, _, rfl, by go_num, HNX, HT11⟩
     case measure => simp [intOf]; omega
  ·have hnl : ¬ (q : Int) < (L.length : Int) := by omega
   have HXE := hidP (HA3.out _ ⟨f, HF.out, hI.out.stop hlt⟩)
   obtain ⟨am, cm, hvm⟩ := hT.out.sts.sts.sl
   rw [hSl] at hvm
   subst hvm
   clear hSl
   have K6 := hidP (K5.out.below hT.out.below (Nat.lt_of_lt_of_le K5.out.lt (Nat.le_refl _)))
   have W6 := hidP (B5.out.trans (hT.out.below.mono B5.out.size))
   have m0 := hT.out.bxM.cell 0 (v := .int .i64 0) rfl
   have m1 := hT.out.bxM.cell 1 (v := .slice am q cm) rfl
   have e0 := K6.out.cell 0 (v := .int .i64 0) rfl
   have e1 := K6.out.cell 1 (v := .slice none 0 0) rfl
   have g0 := K6.out.fz 0
   have g1 := K6.out.fz 1
   repeat (first | go_skip | go_guarded | go_step | go_upon)
   exact bodyPost_ret (res_lst _ _ (w.heap.size + 1) t 0 _ _ ((K6.out.set 0 (.int .i64 0)).set 1 (.slice am q cm)) rfl rfl rfl) rfl ⟨_, _, _, _, rfl, HXE.out, .inr ⟨_, rfl, ((hT.out.sts.setM K6.out 0 _).setM (K6.out.set 0 _) 1 _).monoB B5.out.size⟩, (W6.out.setCell (p := ⟨w.heap.size + 1, 0, none⟩) (by show w.heap.size ≤ w.heap.size + 1; omega) _).setCell (p := ⟨w.heap.size + 1, 1, none⟩) (by show w.heap.size ≤ w.heap.size + 1; omega) _⟩
end Go.Proofs.YthajkkobgfighaaGreatDoor.Wt
