/- The reference: without what leads nowhere. -/
import Derived.Test.YthajkkobgfighaaGreatDoorJaN
import Derived.Test.YthajkkobgfighaaGreatDoorJac
namespace Go.Proofs.YthajkkobgfighaaGreatDoor.Wt
open Go.ChangeShapes Go.WideShapes Go.ChangeAt Go.RowKit
open Go.Proofs.YthajkkobgfighaaGreatDoor.Pl
set_option linter.unusedVariables false
set_option linter.unusedSimpArgs false
theorem infoInt1 : (Tryz.prog.info? 3).map (fun i => (i.zero, i.size, i.bytes)) = some (some (.int .i64 0), 1, 8) := by kernel_rfl
def HeldK (B gk ok b off n cap i x : Nat) (f : Int) (va : Value) (w : World) : Prop :=
 w.cell? ⟨B, 1, none⟩ = some (.slice (some ⟨b, off, none⟩) n cap) ∧ w.cell? ⟨gk, ok + i, none⟩ = some (.int .i64 (x : Int)) ∧ w.cell? ⟨b, off + x * 2, none⟩ = some (.int .i64 f) ∧ w.cell? ⟨b, off + x * 2 + 1, none⟩ = some va
theorem HeldK.alloc {B gk ok b off n cap i x : Nat} {f : Int} {va : Value} {w : World} (h : HeldK B gk ok b off n cap i x f va w) (o : Obj) : HeldK B gk ok b off n cap i x f va (w.alloc o) := by
 obtain ⟨h1, h2, h3, h4⟩ := h
 have hb : Below w.heap.size w (w.alloc o) := (Below.refl _ _).alloc (Nat.le_refl _) o
 exact ⟨(hb.cell (World.block_lt_of_cell? _ _ h1)).trans h1, (hb.cell (World.block_lt_of_cell? _ _ h2)).trans h2, (hb.cell (World.block_lt_of_cell? _ _ h3)).trans h3, (hb.cell (World.block_lt_of_cell? _ _ h4)).trans h4⟩
set_option maxRecDepth 100000 in
set_option maxHeartbeats 6400000 in
theorem trimmed_own (v : Value) (m : Mc) (w : World) (h : Mach w v m) (hok : okM m) (hr : faultM m = 0) :
  Calls Tryz.prog 33 #[v] w fun e w' => ∃ st vt, e = .returned (.tuple #[.agg #[.int .i64 st, vt], .int .i64 0]) ∧ (∃ aa, Least (AheadC m.1 m.2) m.2.length aa ∧ ∃ bs, Least (BackC m.2) m.2.length bs ∧ st = (trimM m.1 m.2 (keptL aa bs m.2.length)).1 ∧ OwnSts w' w.heap.size vt (trimM m.1 m.2 (keptL aa bs m.2.length)).2) ∧ Below w.heap.size w w' := by
 obtain ⟨i0, hi0, hz0, hz1, hz2⟩ := info_parts infoArc
 obtain ⟨i1, hi1, hy0, hy1, hy2⟩ := info_parts infoInt1
 obtain ⟨z, l⟩ := m
 obtain ⟨vs, rfl, hS⟩ := h
 obtain ⟨a, cap, rfl, hc⟩ := hS.get
 have HM : Hid (Mach w (.agg #[.int .i64 z, .slice a l.length cap]) (z, l)) := ⟨_, rfl, hS⟩
 have HK : Hid (okM (z, l)) := hok
 have HR : Hid (faultM (z, l) = 0) := hr
 have h60 := (right_size hr).1
 have HLK : Hid (∀ j, j < l.length → (el l j).2.length * 32 ≤ 140737488351232) := hok.2
 have HC : Hid (∀ j, j < l.length → ∃ b off va, a = some ⟨b, off, none⟩ ∧ b < w.heap.size ∧ w.cell? ⟨b, off + j * 2, none⟩ = some (.int .i64 (el l j).1) ∧ w.cell? ⟨b, off + j * 2 + 1, none⟩ = some va ∧ Arcs w va (el l j).2) := hc
 clear hS hc hok hr
 simp only
 generalize hn : l.length = n at *
 have HN : Hid (l.length = n) := hn
 clear hn
 go_enter Tryz.func33, Tryz.ntmps33
 go_wp2_with (first
  | (go_at_call 64; (with_reducible refine (aheadOf_ok _ (z, l) _ (HM.out.later (B := w.heap.size) (by go_grown) (Nat.le_refl _)) HK.out HR.out).mono ?_); rintro e w1 ⟨va1, rfl, ⟨aa, hBa, hLa⟩, hb⟩; obtain ⟨s1, k0, k1, hb1⟩ := boxedTwo hb (by simp); have HLa : Hid (Least (AheadC z l) n aa) := (by have h9 := hLa; simp only at h9; rw [HN.out] at h9; exact h9); have HBa : Hid (Bools w1 va1 aa) := hBa; have K0 : Hid (Blk w1 w.heap.size #[.int .i64 z, .slice a n cap] 24) := k0; have K1 : Hid (Blk w1 (w.heap.size + 1) #[.int .i64 0, .slice none 0 0] 24) := k1; have c0 := k0.cell 0 (v := .int .i64 z) rfl; have c1 := k0.cell 1 (v := .slice a n cap) rfl; have HB1 : Hid (Below w.heap.size w w1) := hb1; clear k0 k1 hb hb1 hLa hBa)
  | (go_at_call 65; (with_reducible refine (backOf_ok _ (z, l) _ (HM.out.later HB1.out (Nat.le_refl _)) HK.out HR.out).mono ?_); rintro e w2 ⟨vb1, rfl, ⟨bs, hBb, hLb⟩, hb⟩; have HLb : Hid (Least (BackC l) n bs) := (by have h9 := hLb; simp only at h9; rw [HN.out] at h9; exact h9); have HBb : Hid (Bools w2 vb1 bs) := hBb; have HBa2 : Hid (Bools w2 va1 aa) := HBa.out.later hb (Nat.le_refl _); have L0 : Hid (Blk w2 w.heap.size #[.int .i64 z, .slice a n cap] 24) := K0.out.below hb K0.out.lt; have L1 : Hid (Blk w2 (w.heap.size + 1) #[.int .i64 0, .slice none 0 0] 24) := K1.out.below hb K1.out.lt; have HB2 : Hid (Below w.heap.size w w2) := HB1.out.trans (hb.mono HB1.out.size); have hs2 : w.heap.size + 2 ≤ w2.heap.size := Nat.le_trans s1 hb.size; clear hb hBb hLb))
 have hlenA : aa.length = n := HLa.out.1
 have hlenB : bs.length = n := HLb.out.1
 obtain ⟨xa, ca, hva, hca⟩ := HBa2.out.get
 obtain ⟨xb, cb, hvb, hcb⟩ := HBb.out.get
 rw [hlenA] at hva hca
 rw [hlenB] at hvb hcb
 have HCA : Hid (∀ j, j < n → ∃ b off, xa = some ⟨b, off, none⟩ ∧ b < w2.heap.size ∧ w2.cell? ⟨b, off + j, none⟩ = some (.bool (el aa j))) := hca
 have HCB : Hid (∀ j, j < n → ∃ b off, xb = some ⟨b, off, none⟩ ∧ b < w2.heap.size ∧ w2.cell? ⟨b, off + j, none⟩ = some (.bool (el bs j))) := hcb
 subst hva hvb
 clear hca hcb hlenA hlenB HBa HBa2 HBb HB1 K0 K1 c0 c1
 go_loopw [8, 9] (fun s8 i wr => ∃ (q : Nat) (vo : Value), q ≤ n ∧ vo = s8 ∧ i = .int .i64 q ∧ Hid (wr.ownsRow w2.heap.size 3 1 vo (keptL aa bs q).length ((keptL aa bs q).flatMap encI1)) ∧ Hid (Below w2.heap.size w2 wr)) (fun _ i _ => n - (intOf i).toNat)
 case atStart => exact ⟨0, _, Nat.zero_le _, rfl, rfl, World.ownsRow_nil _ _ _ _, Below.refl _ _⟩
 case round =>
  obtain ⟨q, vo, hq, rfl, rfl, hown, hb⟩ := hrel
  have c1 := (hb.out.cell (p := ⟨w.heap.size, 1, none⟩) (by show w.heap.size < _; omega)).trans (L0.out.cell 1 (v := .slice a n cap) rfl)
  by_cases hqn : q < n
  ·obtain ⟨ba, oa, rfl, hbal, g0⟩ := HCA.out q hqn
   obtain ⟨bb, ob, rfl, hbbl, g1⟩ := HCB.out q hqn
   have g0 := (hb.out.cell (p := ⟨ba, oa + q, none⟩) hbal).trans g0
   have g1 := (hb.out.cell (p := ⟨bb, ob + q, none⟩) hbbl).trans g1
   have hq0 : (0 : Int) ≤ (q : Int) := by omega
   have hq1 : (q : Int) < (n : Int) := by omega
   have HKS := keptL_succ aa bs q
   have hkl := keptL_le aa bs q
   generalize keptL aa bs q = ks at *
   rcases bool_cases' (el aa q) with e1 | e1
   ·rcases bool_cases' (el bs q) with e2 | e2
    ·have HE : Hid (keptL aa bs (q + 1) = ks ++ [(q : Int)]) := by show _ = _; rw [HKS, e1, e2]; rfl
     rw [e1] at g0
     rw [e2] at g1
     have HZ : Hid (w2.heap.size ≤ wr.heap.size) := hb.out.size
     clear HKS e1 e2
     go_wp2_with (first
      | (at_builtin; refine wpList_append_rows encI1_len (by decide) encI1_one rfl _ _ 38 rfl w2.heap.size 3 i1 _ 8 Tryz.underlying38 hi1 hy0 hy1 hy2 rfl _ ks.length (ks.flatMap encI1) rfl (hown.out.alloc _) _ [(q : Int)] rfl (oneRow (enc := encI1) wr (q : Int) rfl 3) (by simp; unfold maxLen; omega) (by simp; omega) (by have := HZ.out; simp; omega) ?_; intro v4 w4 ho4 hg4; obtain ⟨HO4, HB4, HZ4⟩ := snocFacts hown.out HZ.out ho4 hg4; clear ho4 hg4))
     go_roundw
     case rel => exact ⟨q + 1, _, by omega, rfl, by go_num, by rw [HE.out]; exact HO4, hb.out.trans HB4.out⟩
     case measure => simp [intOf]; omega
    ·have HE : Hid (keptL aa bs (q + 1) = ks) := by show _ = _; rw [HKS, e1, e2]; simp
     rw [e1] at g0
     rw [e2] at g1
     clear HKS e1 e2
     go_wp2
     go_roundw
     case rel => exact ⟨q + 1, vo, by omega, rfl, by go_num, by rw [HE.out]; exact hown, hb⟩
     case measure => simp [intOf]; omega
   ·have HE : Hid (keptL aa bs (q + 1) = ks) := by show _ = _; rw [HKS, e1]; simp
    rw [e1] at g0
    clear HKS e1
    go_wp2
    go_roundw
    case rel => exact ⟨q + 1, vo, by omega, rfl, by go_num, by rw [HE.out]; exact hown, hb⟩
    case measure => simp [intOf]; omega
  ·have hqe : q = n := by omega
   have hnl : ¬ (q : Int) < (n : Int) := by omega
   have HKM : Hid (∀ x ∈ keptL aa bs n, ∃ q : Nat, x = (q : Int) ∧ q < n) := fun x hx => by obtain ⟨q, h1, h2, _⟩ := keptL_mem hx; exact ⟨q, h1, h2⟩
   have HKP : Hid (wr.ownsRow w2.heap.size 3 1 vo (keptL aa bs n).length ((keptL aa bs n).flatMap encI1)) := by have h9 := hown.out; rw [hqe] at h9; exact h9
   have hkl := keptL_le aa bs n
   have HTR : Hid (∀ ks, ks = keptL aa bs n → trimM z l ks = trimM z l (keptL aa bs n)) := fun ks e => by rw [e]
   clear hqe hown
   generalize hks : keptL aa bs n = ks at *
   have HKS : Hid (keptL aa bs n = ks) := hks
   clear hks
   obtain ⟨wk, hwk⟩ : ∃ wk, wk = wr := ⟨wr, rfl⟩
   subst hwk
   obtain ⟨kx, kc, hkv⟩ := own_sl HKP.out
   subst hkv
   have HNM : Hid (Nums wk (.slice kx ks.length kc) ks) := Row.ofOwn encI1_len HKP.out rfl
   have HNG : Hid (∀ j, j < ks.length → ∃ b off, kx = some ⟨b, off, none⟩ ∧ b < wk.heap.size ∧ wk.cell? ⟨b, off + j, none⟩ = some (.int .i64 (el ks j))) := by
    obtain ⟨a9, c9, h8, h9⟩ := HNM.out.get
    simp only [Value.slice.injEq, true_and] at h8
    obtain ⟨rfl, rfl⟩ := h8
    exact h9
   have HBW : Hid (Below w.heap.size w wk) := HB2.out.trans (hb.out.mono HB2.out.size)
   have hsk : w.heap.size + 2 ≤ wk.heap.size := Nat.le_trans hs2 hb.out.size
   have M0 : Hid (Blk wk w.heap.size #[.int .i64 z, .slice a n cap] 24) := L0.out.below hb.out L0.out.lt
   have M1 : Hid (Blk wk (w.heap.size + 1) #[.int .i64 0, .slice none 0 0] 24) := L1.out.below hb.out L1.out.lt
   generalize hst : placeI ks z = st
   have HST : Hid (placeI ks z = st) := hst
   clear hst
   have c0 := (hb.out.cell (p := ⟨w.heap.size, 0, none⟩) (by show w.heap.size < _; omega)).trans (L0.out.cell 0 (v := .int .i64 z) rfl)
   have HK4 : Hid (ks.length ≤ 4398046511104) := by show _ ≤ _; omega
   go_wp2_with (first
    | (go_at_call 66; (with_reducible refine (place_any _ ks _ _ HNM.out HK4.out st HST.out).mono ?_); rintro e w9 ⟨rfl, rfl⟩))
   clear hb L0 L1 HB2 HCA HCB HKP
   generalize hK9 : ks.length = KN at *
   have HKL : Hid (ks.length = KN) := hK9
   have HK5 : Hid (ks.length ≤ 4398046511104) := by show _ ≤ _; rw [hK9]; exact HK4.out
   clear hK9
   go_loopw [11] (fun i wr => ∃ (i9 : Nat) (vt : Value), i9 ≤ KN ∧ i = .int .i64 i9 ∧ Hid (OwnSts wr (wk.heap.size + 1) vt ((ks.take i9).map (trimS l ks))) ∧ Hid (Blk wr wk.heap.size #[.int .i64 st, vt] 24) ∧ Hid (Below wk.heap.size wk wr) ∧ wk.heap.size + 1 ≤ wr.heap.size) (fun i _ => KN - (intOf i).toNat)
   case atStart => exact ⟨0, _, Nat.zero_le _, rfl, OwnSts.nil _ _, Blk.made _ _ _, by (show Below _ _ _); go_grown, by simp⟩
   case round =>
    obtain ⟨i9, vt, hi9, rfl, hos, hbm, hbo, hso⟩ := hrel
    by_cases hiK : i9 < KN
    ·obtain ⟨wo, hwo⟩ : ∃ wo, wo = wr := ⟨wr, rfl⟩
     subst hwo
     obtain ⟨gk, ok, rfl, hgkl, kc0⟩ := HNG.out i9 hiK
     have HTS : Hid ((ks.take (i9 + 1)).map (trimS l ks) = (ks.take i9).map (trimS l ks) ++ [trimS l ks (el ks i9)]) := by show _ = _; rw [take_el (by rw [HKL.out]; exact hiK)]; simp
     obtain ⟨x, hx, hxn⟩ := HKM.out (el ks i9) (el_mem (by rw [HKL.out]; exact hiK))
     rw [hx] at kc0 HTS
     obtain ⟨b, off, va, rfl, hbl, g0, g1, gA⟩ := HC.out x hxn
     have hBo : Below w.heap.size w wo := HBW.out.trans (hbo.out.mono HBW.out.size)
     have GA := gA.later hBo (Nat.le_refl _)
     have HS : HeldK w.heap.size gk ok b off n cap i9 x (el l x).1 va wo.drew := ⟨(hbo.out.cell (p := ⟨w.heap.size, 1, none⟩) (by show w.heap.size < _; omega)).trans (M0.out.cell 1 rfl), (hbo.out.cell (p := ⟨gk, ok + i9, none⟩) hgkl).trans kc0, (hBo.cell (p := ⟨b, off + x * 2, none⟩) hbl).trans g0, (hBo.cell (p := ⟨b, off + x * 2 + 1, none⟩) hbl).trans g1⟩
     have HTE : Hid (trimS l ks (x : Int) = ((el l x).1, trimA ks (el l x).2)) := rfl
     have hL32 := HLK.out x hxn
     obtain ⟨va0, vc0, hva, hgc⟩ := GA.get
     have HGC : Hid (∀ j, j < (el l x).2.length → ∃ b off, va0 = some ⟨b, off, none⟩ ∧ b < wo.heap.size ∧ wo.cell? ⟨b, off + j * 4, none⟩ = some (.int .i64 (el (el l x).2 j).1) ∧ wo.cell? ⟨b, off + j * 4 + 1, none⟩ = some (.int .i64 (el (el l x).2 j).2.1) ∧ wo.cell? ⟨b, off + j * 4 + 2, none⟩ = some (.int .i64 (el (el l x).2 j).2.2.1) ∧ wo.cell? ⟨b, off + j * 4 + 3, none⟩ = some (.int .i64 (el (el l x).2 j).2.2.2)) := hgc
     subst hva
     clear gA g0 g1 kc0 hgc GA hx hBo
     generalize (el l x).1 = f at *
     generalize (el l x).2 = ar at *
     generalize hL : ar.length = L at *
     have HL : Hid (ar.length = L) := hL
     clear hL
     have hi0' : (0 : Int) ≤ (i9 : Int) := by omega
     have hi1' : (i9 : Int) < (KN : Int) := by omega
     have hx0' : (0 : Int) ≤ (x : Int) := by omega
     have hx1' : (x : Int) < (n : Int) := by omega
     have HSA : HeldK w.heap.size gk ok b off n cap i9 x f (.slice va0 L vc0) (wo.drew.alloc (.cells #[.int .i64 0, .slice none 0 0] 33)) := HS.alloc _
     go_wp2
     refine region_anyL (HeldK w.heap.size gk ok b off n cap i9 x f (.slice va0 L vc0)) 9 (by kernel_rfl) ?_
     refine anyL_tk (i := 0) (v := ?v0_1) aZ0 (by kernel_rfl) ?y0_1 HS ?r0_1
     case y0_1 => intro wx hx; obtain ⟨h1, h2, h3, h4⟩ := hx; go_simp; try (with_reducible rfl)
     simp only [Act.put, List.setIfInBounds_toArray, List.set_cons_zero, List.set_cons_succ]
     refine anyL_tk (i := 1) (v := ?v1_2) aZ1 (by kernel_rfl) ?y1_2 HS ?r1_2
     case y1_2 => intro wx hx; obtain ⟨h1, h2, h3, h4⟩ := hx; go_simp; try (with_reducible rfl)
     simp only [Act.put, List.setIfInBounds_toArray, List.set_cons_zero, List.set_cons_succ]
     refine anyL_tk (i := 2) (v := ?v2_3) aZ2 (by kernel_rfl) ?y2_3 HS ?r2_3
     case y2_3 => intro wx hx; obtain ⟨h1, h2, h3, h4⟩ := hx; go_simp; try (with_reducible rfl)
     simp only [Act.put, List.setIfInBounds_toArray, List.set_cons_zero, List.set_cons_succ]
     refine anyL_tk (i := 3) (v := ?v3_4) aZ3 (by kernel_rfl) ?y3_4 HS ?r3_4
     case y3_4 => intro wx hx; obtain ⟨h1, h2, h3, h4⟩ := hx; go_simp; try (with_reducible rfl)
     simp only [Act.put, List.setIfInBounds_toArray, List.set_cons_zero, List.set_cons_succ]
     refine anyL_tk (i := 4) (v := ?v4_5) aZ4 (by kernel_rfl) ?y4_5 HS ?r4_5
     case y4_5 => intro wx hx; obtain ⟨h1, h2, h3, h4⟩ := hx; go_simp; try (with_reducible rfl)
     simp only [Act.put, List.setIfInBounds_toArray, List.set_cons_zero, List.set_cons_succ]
     refine anyL_tk (i := 5) (v := ?v5_6) aZ5 (by kernel_rfl) ?y5_6 HS ?r5_6
     case y5_6 => intro wx hx; obtain ⟨h1, h2, h3, h4⟩ := hx; go_simp; try (with_reducible rfl)
     simp only [Act.put, List.setIfInBounds_toArray, List.set_cons_zero, List.set_cons_succ]
     refine anyL_tk (i := 6) (v := ?v6_7) aZ6 (by kernel_rfl) ?y6_7 HS ?r6_7
     case y6_7 => intro wx hx; obtain ⟨h1, h2, h3, h4⟩ := hx; go_simp; try (with_reducible rfl)
     simp only [Act.put, List.setIfInBounds_toArray, List.set_cons_zero, List.set_cons_succ]
     refine anyL_tk (i := 7) (v := ?v7_8) aZ7 (by kernel_rfl) ?y7_8 HS ?r7_8
     case y7_8 => intro wx hx; obtain ⟨h1, h2, h3, h4⟩ := hx; go_simp; try (with_reducible rfl)
     simp only [Act.put, List.setIfInBounds_toArray, List.set_cons_zero, List.set_cons_succ]
     refine anyL_one (i := 8) aZ8 (by kernel_rfl) rfl (fun K hK => ?_)
     go_simp
     refine hK _ _ (.inr HSA) ?_
     try simp only [Act.put, List.setIfInBounds_toArray, List.set_cons_zero, List.set_cons_succ]
     refine anyL_one (i := 9) aZ9 (by kernel_rfl) rfl (fun K hK => ?_)
     go_simp
     refine hK _ _ (.inl rfl) (anyL_done (by kernel_rfl) (NoPanic.normal ?_))
     try simp only [Act.put, List.setIfInBounds_toArray, List.set_cons_zero, List.set_cons_succ]
     clear HS HSA
     have S0 : Hid (Blk (wo.drew.alloc (.cells #[.int .i64 f, .slice va0 L vc0] 33)) wo.heap.size #[.int .i64 f, .slice va0 L vc0] 33) := Blk.made wo.drew _ _
     have BO : Hid (Below wo.heap.size wo (wo.drew.alloc (.cells #[.int .i64 f, .slice va0 L vc0] 33))) := (Below.refl wo.heap.size wo).drew.alloc (Nat.le_refl _) _
     go_wp2
     go_loopw [13, 14] (fun s13 i wr => ∃ (j : Nat) (vr : Value), j ≤ L ∧ vr = s13 ∧ i = .int .i64 j ∧ Hid (wr.ownsRow (wo.heap.size + 1) 48 4 vr (trimA ks (ar.take j)).length ((trimA ks (ar.take j)).flatMap encA)) ∧ Hid (Blk wr wo.heap.size #[.int .i64 f, .slice va0 L vc0] 33) ∧ Hid (Below wo.heap.size wo wr) ∧ wo.heap.size + 1 ≤ wr.heap.size) (fun _ i _ => L - (intOf i).toNat)
     case atStart => exact ⟨0, _, Nat.zero_le _, rfl, rfl, World.ownsRow_nil _ _ _ _, S0, BO, by show wo.heap.size + 1 ≤ (wo.alloc (.cells #[.int .i64 f, .slice va0 L vc0] 33)).heap.size; rw [World.size_alloc]; exact Nat.le_refl _⟩
     case round =>
      obtain ⟨j, vr, hj, rfl, rfl, hrw, hsb, hbi, hsi⟩ := hrel
      have u1 := hsb.out.cell 1 (v := .slice va0 L vc0) rfl
      by_cases hjL : j < L
      ·obtain ⟨b3, off3, rfl, hb3l, e0, e1, e2, e3⟩ := HGC.out j hjL
       have e0 := (hbi.out.cell (p := ⟨b3, off3 + j * 4, none⟩) hb3l).trans e0
       have e1 := (hbi.out.cell (p := ⟨b3, off3 + j * 4 + 1, none⟩) hb3l).trans e1
       have e2 := (hbi.out.cell (p := ⟨b3, off3 + j * 4 + 2, none⟩) hb3l).trans e2
       have e3 := (hbi.out.cell (p := ⟨b3, off3 + j * 4 + 3, none⟩) hb3l).trans e3
       have HT := trimA_take (ks := ks) (l := ar) (k := j) (by rw [HL.out]; exact hjL)
       have htl : Hid ((trimA ks (ar.take j)).length ≤ L) := by have h9 := trimA_le ks (ar.take j); rw [List.length_take] at h9; show _ ≤ _; omega
       have hj0 : (0 : Int) ≤ (j : Int) := by omega
       have hj1 : (j : Int) < (L : Int) := by omega
       generalize trimA ks (ar.take j) = tl at *
       unfold turnA at HT
       generalize el ar j = c at *
       generalize hpl : placeI ks c.2.2.2 = pl at *
       have HPL : Hid (placeI ks c.2.2.2 = pl) := hpl
       clear hpl
       have HNK : Hid (Nums (wr.alloc (.cells #[.int .i64 c.1, .int .i64 c.2.1, .int .i64 c.2.2.1, .int .i64 c.2.2.2] 48)) (.slice (some ⟨gk, ok, none⟩) KN kc) ks) := HNM.out.later ((hbo.out.trans (hbi.out.mono hbo.out.size)).alloc (by have h9 := hbo.out.size; have h8 := hbi.out.size; omega) _) (Nat.le_refl _)
       have HD : Hid ((wr.alloc (.cells #[.int .i64 c.1, .int .i64 c.2.1, .int .i64 c.2.2.1, .int .i64 pl] 48)).ownsRow (wo.heap.size + 1) 48 4 vr tl.length (tl.flatMap encA)) := hrw.out.alloc _
       have HDZ : Hid (wo.heap.size + 1 ≤ (wr.alloc (.cells #[.int .i64 c.1, .int .i64 c.2.1, .int .i64 c.2.2.1, .int .i64 pl] 48)).heap.size) := by show _ ≤ _; rw [World.size_alloc]; omega
       have HDS : Hid (Blk (wr.alloc (.cells #[.int .i64 c.1, .int .i64 c.2.1, .int .i64 c.2.2.1, .int .i64 pl] 48)) wo.heap.size #[.int .i64 f, .slice (some ⟨b3, off3, none⟩) L vc0] 33) := hsb.out.alloc _
       have HDB : Hid (Below wo.heap.size wo (wr.alloc (.cells #[.int .i64 c.1, .int .i64 c.2.1, .int .i64 c.2.2.1, .int .i64 pl] 48))) := hbi.out.alloc (by omega) _
       clear hrw hsb hbi
       by_cases hp0 : 0 ≤ pl
       ·have HE : Hid (trimA ks (ar.take (j + 1)) = tl ++ [(c.1, c.2.1, c.2.2.1, pl)]) := by show _ = _; rw [HT, if_pos hp0]
        clear HT
        go_wp2_with (first
         | (go_at_call 66; (with_reducible refine (place_any _ ks _ _ HNK.out HK5.out pl HPL.out).mono ?_); rintro e w9 ⟨rfl, rfl⟩)
         | (at_builtin; refine wpList_append_rows encA_len (by decide) encA_one rfl _ _ 31 rfl (wo.heap.size + 1) 48 i0 _ 32 Tryz.underlying31 hi0 hz0 hz1 hz2 rfl _ tl.length (tl.flatMap encA) rfl (HD.out.alloc _) _ [(c.1, c.2.1, c.2.2.1, pl)] rfl (by have h9 := oneRow (enc := encA) (wr.alloc (.cells #[.int .i64 c.1, .int .i64 c.2.1, .int .i64 c.2.2.1, .int .i64 pl] 48)) (c.1, c.2.1, c.2.2.1, pl) rfl 48; simp only [World.size_alloc] at h9; exact h9) (by have := htl.out; simp; unfold maxLen; omega) (by have := htl.out; simp; omega) (by have := HDZ.out; simp at this ⊢; omega) ?_; intro v4 w4 ho4 hg4; obtain ⟨HO4, HB4, HZ4⟩ := snocFacts HD.out HDZ.out ho4 hg4; clear ho4 hg4))
        go_roundw
        case rel => exact ⟨j + 1, _, by omega, rfl, by go_num, by rw [HE.out]; exact HO4, HDS.out.below HB4.out (Nat.lt_succ_self _), HDB.out.trans (HB4.out.mono (Nat.le_succ _)), HZ4.out⟩
        case measure => simp [intOf]; omega
       ·have HE : Hid (trimA ks (ar.take (j + 1)) = tl) := by show _ = _; rw [HT, if_neg hp0, List.append_nil]
        clear HT
        go_wp2_with (first
         | (go_at_call 66; (with_reducible refine (place_any _ ks _ _ HNK.out HK5.out pl HPL.out).mono ?_); rintro e w9 ⟨rfl, rfl⟩))
        go_roundw
        case rel => exact ⟨j + 1, _, by omega, rfl, by go_num, by rw [HE.out]; exact HD, HDS, HDB, HDZ.out⟩
        case measure => simp [intOf]; omega
      ·have hnl9 : ¬ (j : Int) < (L : Int) := by omega
       have hrw' : wr.ownsRow (wo.heap.size + 1) 48 4 vr (trimA ks ar).length ((trimA ks ar).flatMap encA) := by
        have h9 := hrw.out
        rw [show j = ar.length by rw [HL.out]; omega, List.take_length] at h9
        exact h9
       have hlm : ((ks.take i9).map (trimS l ks)).length ≤ 60 := by rw [List.length_map, List.length_take]; omega
       obtain ⟨v3, w3, r3, ho3, B3⟩ := run_push (W := wr.alloc (.cells #[.int .i64 f, vr] 33)) (f, trimA ks ar) ((ks.take i9).map (trimS l ks)) vr vt (wk.heap.size + 1) (w1 := wr) rfl rfl rfl rfl (hos.out.kept (grownBelow hbi.out)) (ownMono hrw' (by omega)) (by omega) (by omega)
       obtain ⟨a3, cp3, rfl⟩ := ho3.sts.sl
       obtain ⟨ra, rc, rfl⟩ := own_sl hrw'
       have HR3 : Hid _ := r3
       have E2 : Blk wr wk.heap.size #[.int .i64 st, vt] 24 := hbm.out.below hbi.out hbm.out.lt
       have F2 : Hid (Blk w3 wk.heap.size #[.int .i64 st, vt] 24) := E2.below B3 (Nat.lt_succ_self _)
       have t1 := E2.cell 1 (v := vt) rfl
       have t2 := hsb.out.cell 0 (v := .int .i64 f) rfl
       have t4 := F2.out.cell 1 (v := vt) rfl
       have t5 := F2.out.fz 1
       have HOS : Hid (OwnSts w3 (wk.heap.size + 1) (.slice a3 ((ks.take i9).map (trimS l ks) ++ [(f, trimA ks ar)]).length cp3) ((ks.take (i9 + 1)).map (trimS l ks))) := by rw [HTS.out, HTE.out]; exact ho3
       have HBK : Hid (Below wk.heap.size wk w3) := (hbo.out.trans (hbi.out.mono hbo.out.size)).trans (B3.mono (Nat.le_succ _))
       have hs3 : wk.heap.size + 1 ≤ w3.heap.size := by have h1 := hbi.out.size; have h2 := B3.size; omega
       clear ho3 B3 r3 E2 hrw hrw' hsb hbi hos hbm hbo
       generalize ((ks.take i9).map (trimS l ks) ++ [(f, trimA ks ar)]).length = q9 at *
       go_wp2_with (first
        | (at_builtin; refine wpListAppendRun rfl _ _ 22 rfl rfl rfl HR3.out ?_))
       go_roundw
       case rel => exact ⟨i9 + 1, _, by omega, by go_num, HOS.out.setCell (by show wk.heap.size < _; omega) _, F2.out.set 1 _, HBK.out.setCell (Nat.le_refl _) _, by simp [World.setCell]; exact hs3⟩
       case measure => simp [intOf]; omega
    ·have hie : i9 = KN := by omega
     have hnl9 : ¬ (i9 : Int) < (KN : Int) := by omega
     have HX : Hid (OwnSts wr (wk.heap.size + 1) vt (ks.map (trimS l ks))) := by have h9 := hos.out; rw [hie, ← HKL.out, List.take_length] at h9; exact h9
     obtain ⟨av, cv, rfl⟩ := HX.out.sts.sl
     have d0 := hbm.out.cell 0 (v := .int .i64 st) rfl
     have d1 := hbm.out.cell 1 (v := .slice av (ks.map (trimS l ks)).length cv) rfl
     have R1 := M1.out.below hbo.out (by omega)
     have f0 := R1.cell 0 (v := .int .i64 0) rfl
     have f1 := R1.cell 1 (v := .slice none 0 0) rfl
     have f2 := R1.fz 0
     have f3 := R1.fz 1
     have HBF : Hid (Below w.heap.size w wr) := HBW.out.trans (hbo.out.mono HBW.out.size)
     clear hie hos hbm hbo R1
     generalize hq9 : (ks.map (trimS l ks)).length = q9 at *
     clear hq9
     go_wp2
     exact bodyPost_ret (v := .tuple #[.agg #[.int .i64 st, .slice av q9 cv], .int .i64 0]) (by simp [results, Tryz.results33, go_sem, *]) rfl ⟨_, _, rfl, ⟨aa, HLa.out, bs, HLb.out, by rw [HKS.out]; unfold trimM; rw [HST.out], by rw [HKS.out]; exact ((HX.out.setCell (by show w.heap.size + 1 < _; omega) _).setCell (by show w.heap.size + 1 < _; omega) _).monoB (by omega)⟩, by (have h := HBF.out); go_grown⟩
theorem trimmed_ok (v : Value) (m : Mc) (w : World) (h : Mach w v m) (hok : okM m) (hr : faultM m = 0) :
  Calls Tryz.prog 33 #[v] w fun e w' => ∃ v', e = .returned (.tuple #[v', .int .i64 0]) ∧ (∃ aa, Least (AheadC m.1 m.2) m.2.length aa ∧ ∃ bs, Least (BackC m.2) m.2.length bs ∧ Mach w' v' (trimM m.1 m.2 (keptL aa bs m.2.length))) ∧ Below w.heap.size w w' := by
 refine (trimmed_own v m w h hok hr).mono ?_
 rintro e w' ⟨st, vt, rfl, ⟨aa, hA, bs, hB, rfl, ho⟩, hb⟩
 exact ⟨_, rfl, ⟨aa, hA, bs, hB, ⟨_, rfl, ho.sts⟩⟩, hb⟩
set_option maxRecDepth 100000 in
theorem trimmed_bad (v : Value) (m : Mc) (w : World) (h : Mach w v m) (hok : okM m) (r : Int) (hr : faultM m = r) (h0 : ¬ r = 0) :
  Calls Tryz.prog 33 #[v] w fun e w' => e = .returned (.tuple #[.agg #[.int .i64 0, .slice none 0 0], .int .i64 r]) ∧ Below w.heap.size w w' := by
 obtain ⟨z, l⟩ := m
 obtain ⟨vs, rfl, hS⟩ := h
 obtain ⟨a, cap, rfl⟩ := hS.sl
 have HM : Hid (Mach w (.agg #[.int .i64 z, .slice a l.length cap]) (z, l)) := ⟨_, rfl, hS⟩
 have HK : Hid (okM (z, l)) := hok
 have HR : Hid (faultM (z, l) = r) := hr
 have H0 : Hid (¬ r = 0) := h0
 clear hS hok hr
 simp only
 have hne : (r != 0) = true := by simpa using h0
 generalize l.length = n at *
 go_enter Tryz.func33, Tryz.ntmps33
 go_wp2_with (first
  | (go_at_call 64; (with_reducible refine (aheadOf_bad _ (z, l) _ (HM.out.later (B := w.heap.size) (by go_grown) (Nat.le_refl _)) HK.out r HR.out H0.out).mono ?_); rintro e w1 ⟨rfl, hb⟩; obtain ⟨s1, k0, k1, hb1⟩ := boxedTwo hb (by simp); have HB1 : Hid (Below w.heap.size w w1) := hb1; have e0 := k1.cell 0 (v := .int .i64 0) rfl; have e1 := k1.cell 1 (v := .slice none 0 0) rfl; have f0 := k1.fz 0; have f1 := k1.fz 1; clear hb hb1 k0 k1))
 exact bodyPost_ret (v := .tuple #[.agg #[.int .i64 0, .slice none 0 0], .int .i64 r]) (by simp [results, Tryz.results33, go_sem, *]) rfl ⟨rfl, by (have h := HB1.out); go_grown⟩
end Go.Proofs.YthajkkobgfighaaGreatDoor.Wt
