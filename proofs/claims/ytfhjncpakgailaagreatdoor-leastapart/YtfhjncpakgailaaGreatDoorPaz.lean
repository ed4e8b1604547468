/- least.kindsOf: of each state the number of its kind. -/
import Derived.Test.YtfhjncpakgailaaGreatDoorPay
import Derived.Test.YtfhjncpakgailaaGreatDoorPax
namespace Go.Proofs.YtfhjncpakgailaaGreatDoor.Wt
open Go.ChangeShapes Go.WideShapes Go.ChangeAt Go.RowKit Go.Maps
open Go.Proofs.YtfhjncpakgailaaGreatDoor.Pl
set_option linter.unusedVariables false
set_option linter.unusedSimpArgs false
structure KndF (l : List St) (K : List Int) : Prop where
 len : K.length = l.length
 rng : ∀ q, q < l.length → ∃ j : Nat, el K q = (j : Int) ∧ j < l.length
 iff : ∀ q p, q < l.length → p < l.length → (el K q = el K p ↔ Alk l q p)
set_option maxRecDepth 100000 in
set_option maxHeartbeats 3200000 in
theorem kindsOf_any (z : Int) (l : List St) (a : Option Addr) (cap : Nat) (w : World) (h : Mach w (.agg #[.int .i64 z, .slice a l.length cap]) (z, l)) (hr : faultM (z, l) = 0) (h0 : 0 < l.length) (ht : Tab w) :
  Calls Tryz.prog 43 #[.agg #[.int .i64 z, .slice a l.length cap]] w fun e w' => ∃ (g : Nat) (K : List Int), e = .returned (.slice (some ⟨g, 0, none⟩) l.length l.length) ∧ KndF l K ∧ Blk w' g (K.map (Value.int .i64)).toArray 3 ∧ w.heap.size ≤ g ∧ Below w.heap.size w w' := by
 have h60 : l.length ≤ 60 := (right_size hr).1
 have HM := hidP h
 have HTB := hidP ht
 have HCA : Hid (∀ W g K nn, Below w.heap.size w W → Knd l K nn → Blk W g (K.map (Value.int .i64)).toArray 3 → Calls Tryz.prog 73 #[.agg #[.int .i64 z, .slice a l.length cap], .slice (some ⟨g, 0, none⟩) l.length l.length] W fun e w' => ∃ (g : Nat) (F : List Int) (n : Nat), e = .returned (.tuple #[.slice (some ⟨g, 0, none⟩) l.length l.length, .int .i64 (n : Int)]) ∧ Nxt l K F n ∧ Blk w' g (F.map (Value.int .i64)).toArray 3 ∧ W.heap.size ≤ g ∧ Below W.heap.size W w') := fun W g K nn hW hK hB => by
  have hn := nums_block (cap := l.length) hB
  rw [hK.len] at hn
  exact toldApart_any z l a cap _ K W (h.later hW (Nat.le_refl _)) hr hn hK.len (fun x hx => by
   obtain ⟨q, hq, rfl⟩ := mem_el hx
   rw [hK.len] at hq
   obtain ⟨j, hj, hjn⟩ := hK.rng q hq
   have := hK.few
   rw [hj]
   omega) (ht.later hW)
 have HMO : Hid (∀ K F nn k, Knd l K nn → Nxt l K F k → nn ≤ k ∧ k ≤ l.length ∧ Knd l F k) := fun K F nn k h1 h2 => ⟨(h2.more h1).1, (h2.knd (to_of hr) h1).few, h2.knd (to_of hr) h1⟩
 have HEN : Hid (∀ K F nn, Knd l K nn → Nxt l K F nn → KndF l K) := fun K F nn h1 h2 => ⟨h1.len, fun q hq => by
  obtain ⟨j, hj, hjn⟩ := h1.rng q hq
  have := h1.few
  exact ⟨j, hj, by omega⟩, h2.stop (to_of hr) h1⟩
 have HI0 := hidP (knd_start h0)
 clear h hr ht
 generalize hn : l.length = n at *
 clear hn
 have hmk := run_nums n (by omega)
 have hA1 := (Below.refl w.heap.size w).alloc (Nat.le_refl _) (.cells #[.int .i64 z, .slice a n cap] 29)
 have W2 := hidP (hA1.alloc hA1.size (.cells (Array.replicate n (Value.int .i64 0)) 3))
 have G2 := Blk.made (w.alloc (.cells #[.int .i64 z, .slice a n cap] 29)) (Array.replicate n (Value.int .i64 0)) 3
 rw [World.size_alloc] at G2
 have G2' : Hid (Blk ((w.alloc (.cells #[.int .i64 z, .slice a n cap] 29)).alloc (.cells (Array.replicate n (Value.int .i64 0)) 3)) (w.heap.size + 1) ((List.replicate n (0 : Int)).map (Value.int .i64)).toArray 3) := by
  (show Blk _ _ _ _)
  simpa using G2
 have K2 := hidP ((Blk.made w #[.int .i64 z, .slice a n cap] 29).alloc (.cells (Array.replicate n (Value.int .i64 0)) 3))
 clear hA1 G2
 go_enter Tryz.func43, Tryz.ntmps43
 go_wp2
 go_loopw [3, 4] (fun s3 s4 wr => ∃ (g : Nat) (K : List Int) (nn : Nat), s3 = .slice (some ⟨g, 0, none⟩) n n ∧ s4 = .int .i64 (nn : Int) ∧ nn ≤ n ∧ w.heap.size ≤ g ∧ Hid (Knd l K nn) ∧ Hid (Blk wr g (K.map (Value.int .i64)).toArray 3) ∧ Hid (Blk wr w.heap.size #[.int .i64 z, .slice a n cap] 29) ∧ Hid (Below w.heap.size w wr)) (fun _ s4 _ => n - (intOf s4).toNat)
 case atStart => exact ⟨w.heap.size + 1, List.replicate n 0, 1, rfl, rfl, by omega, by omega, HI0, G2', K2, W2⟩
 case round =>
  clear HI0 G2' K2 W2
  obtain ⟨g, K, nn, rfl, rfl, hnn, hgw, hK, hG, hMb, hW⟩ := hrel
  obtain ⟨w3, hw3⟩ : ∃ w3, w3 = wr := ⟨_, rfl⟩
  subst hw3
  have HC := hidP (HCA.out w3 g K nn hW.out hK.out hG.out)
  have m0 := hMb.out.cell 0 (v := .int .i64 z) rfl
  have m1 := hMb.out.cell 1 (v := .slice a n cap) rfl
  go_upto_region 3 with (first
   | (go_at_call 73; (with_reducible refine HC.out.mono ?_); rintro e w4 ⟨g4, F, k, rfl, hx4, hg4, hge4, hb4⟩; have X4 := hidP hx4; have G4 := hidP hg4; have G0 := hidP (hG.out.below hb4 hG.out.lt); have M4 := hidP (hMb.out.below hb4 hMb.out.lt); have W4 := hidP (hW.out.trans (hb4.mono hW.out.size)); have hgw4 := Nat.le_trans hW.out.size hge4; clear hx4 hg4 hge4 hb4 HC hG hMb))
  clear m0 m1
  obtain ⟨hk1, hk2, hk3⟩ := HMO.out K F nn k hK.out X4.out
  by_cases hkn : k = nn
  ·subst hkn
   have HF := hidP (HEN.out K F k hK.out X4.out)
   clear hk3
   go_wp2
   go_ret
   first | exact ⟨g, K, rfl, HF.out, G0.out, hgw, W4.out⟩ | exact ⟨g, rfl, K, HF.out, G0.out, hgw, W4.out⟩
  ·have hne : ((k : Int) == (nn : Int)) = false := by simp; omega
   have HK3 := hidP hk3
   have hlt : nn < k := by omega
   clear hk3
   go_wp2
   go_roundw
   case rel => exact ⟨g4, F, k, rfl, rfl, hk2, hgw4, HK3, G4, M4, W4⟩
   case measure => simp [intOf]; omega
end Go.Proofs.YtfhjncpakgailaaGreatDoor.Wt
namespace Go.Proofs.YtfhjncpakgailaaGreatDoor.Wt
open Go.ChangeShapes Go.WideShapes Go.ChangeAt Go.RowKit
open Go.Proofs.YtfhjncpakgailaaGreatDoor.Pl
set_option linter.unusedVariables false
set_option linter.unusedSimpArgs false
theorem JnI.kept {wr w' : World} {base J gn n : Nat} {vk vf : Value} {Ns : List Int} {Lc : List Nat} (h : JnI wr base J gn n vk vf Ns Lc) {b' : Nat} {e : TypeId} {s : Nat} {vo : Value} {m : Nat} {ms : List Value} (ho : wr.ownsRow b' e s vo m ms) (h1 : e ≠ 3) (h2 : e ≠ 107) (hg : wr.grownBy w' vo.ownBlock) : JnI w' base J gn n vk vf Ns Lc :=
 ⟨h.jb.grown hg (own_ne ho h.jb h2), h.nb.grown hg (own_ne ho h.nb h1), World.ownsRow.kept h.fs hg (own_apart h.fs ho (Ne.symm h1)), h.ne, h.hJ, h.hg⟩
theorem res_join (tm : Array Value) (W : World) (R : Nat) (x0 x1 : Value) (hB : Blk W R #[x0, x1] 29) (h4 : tm.getD 4 undef = .pointer (some ⟨R, 0, none⟩)) : (results Tryz.f42 tm).run Tryz.prog W = .ok (.agg #[x0, x1]) W := by
 have c0 := hB.cell 0 (v := x0) rfl
 have c1 := hB.cell 1 (v := x1) rfl
 simp only [Array.getD_eq_getD_getElem?] at h4
 simp [results, Tryz.results42, go_sem, h4, c0, c1]
structure HeldOx (Mb : Nat) (vs : Value) (J : Nat) (vf : Value) (bL o : Nat) (t : Nat) (b o1 : Nat) (f1 : Int) (v1 : Value) (w : World) : Prop where
 h0 : w.cell? ⟨Mb, 1, none⟩ = some vs
 h1 : w.cell? ⟨J, 2, none⟩ = some vf
 h2 : w.cell? ⟨bL, o, none⟩ = some (.int .i64 (t : Int))
 h3 : w.cell? ⟨b, o1, none⟩ = some (.int .i64 f1)
 h4 : w.cell? ⟨b, o1 + 1, none⟩ = some v1
theorem HeldOx.later {Mb : Nat} {vs : Value} {J : Nat} {vf : Value} {bL o : Nat} {t : Nat} {b o1 : Nat} {f1 : Int} {v1 : Value} {w w' : World} (h : HeldOx Mb vs J vf bL o t b o1 f1 v1 w) (hb : Below w.heap.size w w') : HeldOx Mb vs J vf bL o t b o1 f1 v1 w' :=
 ⟨(hb.cell (World.block_lt_of_cell? _ _ h.h0)).trans h.h0, (hb.cell (World.block_lt_of_cell? _ _ h.h1)).trans h.h1, (hb.cell (World.block_lt_of_cell? _ _ h.h2)).trans h.h2, (hb.cell (World.block_lt_of_cell? _ _ h.h3)).trans h.h3, (hb.cell (World.block_lt_of_cell? _ _ h.h4)).trans h.h4⟩
def HeldT2 (Sb : Nat) (fin : Int) (va : Value) (w : World) : Prop := w.cell? ⟨Sb, 0, none⟩ = some (.int .i64 fin) ∧ w.cell? ⟨Sb, 1, none⟩ = some va
structure JdI (w wr : World) (cm : Array Value) (J gn n : Nat) (vk vf vs : Value) (Ns : List Int) (L : List Nat) (S : List St) : Prop where
 mb : Blk wr w.heap.size cm 29
 rb : Blk wr (w.heap.size + 1) #[.int .i64 0, .slice none 0 0] 29
 jn : JnI wr (w.heap.size + 2) J gn n vk vf Ns L
 sts : OwnSts wr (w.heap.size + 2) vs S
 bel : Below w.heap.size w wr
 size : w.heap.size + 2 ≤ wr.heap.size
section
variable {w wr w' : World} {cm : Array Value} {J gn n : Nat} {vk vf vf' vs vs' : Value} {Ns Ns' : List Int} {L L' : List Nat} {S S' : List St}
theorem JdI.later (h : JdI w wr cm J gn n vk vf vs Ns L S) (hb : Below wr.heap.size wr w') : JdI w w' cm J gn n vk vf vs Ns L S := ⟨h.mb.below hb h.mb.lt, h.rb.below hb h.rb.lt, h.jn.later hb, h.sts.laterB hb, h.bel.trans (hb.mono h.bel.size), Nat.le_trans h.size hb.size⟩
theorem JdI.next (h : JdI w wr cm J gn n vk vf vs Ns L S) (hb : Below (w.heap.size + 2) wr w') (hj : JnI w' (w.heap.size + 2) J gn n vk vf' Ns' L') (hs : OwnSts w' (w.heap.size + 2) vs' S') : JdI w w' cm J gn n vk vf' vs' Ns' L' S' := ⟨h.mb.below hb (by omega), h.rb.below hb (by omega), hj, hs, h.bel.trans (hb.mono (by omega)), Nat.le_trans h.size hb.size⟩
end
set_option maxRecDepth 100000 in
set_option maxHeartbeats 6400000 in
theorem joined_any (zn : Nat) (l : List St) (a : Option Addr) (cap gk : Nat) (K : List Int) (w : World) (h : Mach w (.agg #[.int .i64 (zn : Int), .slice a l.length cap]) ((zn : Int), l)) (hr : faultM ((zn : Int), l) = 0) (hzl : zn < l.length) (hK : KndF l K) (hB : Blk w gk (K.map (Value.int .i64)).toArray 3) :
  Calls Tryz.prog 42 #[.agg #[.int .i64 (zn : Int), .slice a l.length cap], .slice (some ⟨gk, 0, none⟩) l.length l.length] w fun e w' => ∃ (vs : Value) (x : Mc), e = .returned (.agg #[.int .i64 x.1, vs]) ∧ (∃ f, FstC l f ∧ lstA l f zn = (x, 0)) ∧ OwnSts w' (w.heap.size + 2) vs x.2 ∧ Below w.heap.size w w' := by
 obtain ⟨f, hf⟩ := cls_exists (to_of hr)
 have h60 : l.length ≤ 60 := (right_size hr).1
 obtain ⟨vs', hvs, hS⟩ := h
 simp only [Value.agg.injEq, Array.mk.injEq, List.cons.injEq, and_true, true_and] at hvs
 subst hvs
 obtain ⟨a', cap', hsl, hc⟩ := hS.get
 simp only [Value.slice.injEq, true_and] at hsl
 obtain ⟨rfl, rfl⟩ := hsl
 have HC : Hid (∀ j, j < l.length → ∃ b off va, a = some ⟨b, off, none⟩ ∧ b < w.heap.size ∧ w.cell? ⟨b, off + j * 2, none⟩ = some (.int .i64 (el l j).1) ∧ w.cell? ⟨b, off + j * 2 + 1, none⟩ = some va ∧ Arcs w va (el l j).2) := hc
 have HF := hidP hf
 have HR := hidP hr
 have HBK := hidP hB
 have HKR := hidP hK.rng
 have HKF : Hid (∀ q p, q < l.length → p < l.length → (el K q = el K p ↔ f q = f p)) := fun q p hq hp => (hK.iff q p hq hp).trans (hf.one q p hq hp).symm
 have HKL := hidP hK.len
 have HEND : Hid (∀ x, lstA l f zn = (x, 0) → ∃ f, FstC l f ∧ lstA l f zn = (x, 0)) := fun x hx => ⟨f, hf, hx⟩
 have HI0 := hidP (BfsI.init (l := l) (f := f) (s := zn) hzl)
 obtain ⟨Q, hQ⟩ : ∃ Q : Mc → Prop, (fun x => ∃ f, FstC l f ∧ lstA l f zn = (x, 0)) = Q := ⟨_, rfl⟩
 have HEND : Hid (∀ x, lstA l f zn = (x, 0) → Q x) := fun x hx => by rw [← hQ]; exact HEND.out x hx
 have hgoal : ∀ (P : Ending → World → Prop), True := fun _ => trivial
 refine Calls.mono (R := fun e w' => ∃ (vs : Value) (x : Mc), e = .returned (.agg #[.int .i64 x.1, vs]) ∧ Q x ∧ OwnSts w' (w.heap.size + 2) vs x.2 ∧ Below w.heap.size w w') ?_ (fun e w' ⟨v, x, h1, h2, h3, h4⟩ => ⟨v, x, h1, by rw [← hQ] at h2; exact h2, h3, h4⟩)
 clear hS hc hr hK hB hf hQ hgoal
 obtain ⟨n, hn⟩ : ∃ n, l.length = n := ⟨_, rfl⟩
 rw [hn] at h60 HC HKR HKF HKL hzl ⊢
 have HN := hidP hn
 clear hn
 have hA1 := (Below.refl w.heap.size w).alloc (Nat.le_refl _) (.cells #[.int .i64 (zn : Int), .slice a n cap] 29)
 have hA2 := hA1.alloc hA1.size (.cells #[.int .i64 0, .slice none 0 0] 29)
 have W2 := hidP hA2
 have M2 := hidP ((Blk.made w #[.int .i64 (zn : Int), .slice a n cap] 29).alloc (.cells #[.int .i64 0, .slice none 0 0] 29))
 have R2 := Blk.made (w.alloc (.cells #[.int .i64 (zn : Int), .slice a n cap] 29)) #[.int .i64 0, .slice none 0 0] 29
 rw [World.size_alloc] at R2
 have R2 := hidP R2
 have HS2 : Hid (((w.alloc (.cells #[.int .i64 (zn : Int), .slice a n cap] 29)).alloc (.cells #[.int .i64 0, .slice none 0 0] 29)).heap.size = w.heap.size + 2) := by (show _ = _); simp
 clear hA1 hA2
 go_enter Tryz.func42, Tryz.ntmps42
 go_upto_region 1 with fail
 generalize (w.alloc (.cells #[.int .i64 (zn : Int), .slice a n cap] 29)).alloc (.cells #[.int .i64 0, .slice none 0 0] 29) = w2 at *
 have hA3 := (Below.refl w2.heap.size w2).alloc (Nat.le_refl _) (.cells #[.int .i64 (-1)] 3)
 have HRP := hidP (repeat_any (-1) w2.heap.size n (w2.alloc (.cells #[.int .i64 (-1)] 3)) ((Blk.made w2 #[.int .i64 (-1)] 3).cell 0 rfl) (by omega) (by omega))
 have M3 := hidP (M2.out.below hA3 M2.out.lt)
 have R3 := hidP (R2.out.below hA3 R2.out.lt)
 have W3 := hidP (W2.out.trans (hA3.mono W2.out.size))
 have hs3 := hA3.size
 clear hA3 M2 R2 W2
 go_upto_region 2 with (first
  | (go_at_call 70; (with_reducible refine HRP.out.mono ?_); rintro e w4 ⟨gn, rfl, hg4, hge4, hb4⟩; have G4 := hidP hg4; have M4 := hidP (M3.out.below hb4 M3.out.lt); have R4 := hidP (R3.out.below hb4 R3.out.lt); have W4 := hidP (W3.out.trans (hb4.mono W3.out.size)); have hs4 := Nat.le_trans hs3 hb4.size; have hgn := Nat.le_trans hs3 hge4; clear hg4 hge4 hb4 HRP M3 R3 W3))
 have hA5 := (Below.refl w4.heap.size w4).alloc (Nat.le_refl _) (.cells #[.slice (some ⟨gk, 0, none⟩) n n, .slice (some ⟨gn, 0, none⟩) n n, .slice none 0 0] 107)
 have M5 := hidP (M4.out.below hA5 M4.out.lt)
 have R5 := hidP (R4.out.below hA5 R4.out.lt)
 have W5 := hidP (W4.out.trans (hA5.mono W4.out.size))
 have J5 : Hid (JnI (w4.alloc (.cells #[.slice (some ⟨gk, 0, none⟩) n n, .slice (some ⟨gn, 0, none⟩) n n, .slice none 0 0] 107)) (w.heap.size + 2) w4.heap.size gn n (.slice (some ⟨gk, 0, none⟩) n n) (.slice none 0 0) (List.replicate n (-1)) []) := ⟨Blk.made _ _ _, G4.out.below hA5 G4.out.lt, World.ownsRow_nil _ _ _ _, by simp [Value.ownBlock], by have := HS2.out; omega, by have := HS2.out; omega⟩
 have hs5 := Nat.le_trans hs4 hA5.size
 clear hA5 M4 R4 W4 G4
 generalize w4.alloc (.cells #[.slice (some ⟨gk, 0, none⟩) n n, .slice (some ⟨gn, 0, none⟩) n n, .slice none 0 0] 107) = w5 at *
 obtain ⟨J, hJ⟩ : ∃ J, J = w4.heap.size := ⟨_, rfl⟩
 rw [← hJ] at J5 ⊢
 clear hJ hs4 hgn hs3
 have hsz5 : w.heap.size + 2 ≤ w5.heap.size := by have := HS2.out; omega
 have HNJ := hidP (numJ_any w w5 (w.heap.size + 2) J gn gk n _ K _ [] zn J5.out (NbI.init n K) HKR.out HKL.out HBK.out W5.out (by omega) hzl h60 (by simp) hsz5)
 have m0 := M5.out.cell 0 (v := .int .i64 (zn : Int)) rfl
 clear HS2 hs5
 go_wp2_with (first
  | (go_at_call 71; (with_reducible refine HNJ.out.mono ?_); rintro e w6 ⟨jx, vf6, Ns6, Lc6, rfl, hnj, hnb, hjn, hjk, hbb⟩; obtain rfl : Lc6 = [zn] := (by rcases hnj with ⟨h1, _⟩ | ⟨_, _, h3⟩; exact absurd h1 (by simp); exact h3); have NB6 := hidP hnb; have D6 : Hid (JdI w w6 #[.int .i64 (zn : Int), .slice a n cap] J gn n (.slice (some ⟨gk, 0, none⟩) n n) vf6 (.slice none 0 0) Ns6 [zn] []) := ⟨M5.out.below hbb (by omega), R5.out.below hbb (by omega), hjn, OwnSts.nil _ _, W5.out.trans (hbb.mono (by omega)), Nat.le_trans hsz5 hbb.size⟩; clear hnj hnb hjn hjk hbb HNJ))
 clear m0 M5 R5 W5 J5 hsz5
 go_loopw [6, 7] (fun s6 s7 wr => ∃ (q nn : Nat) (vs vf : Value) (Ns : List Int) (L : List Nat) (S : List St), vs = s6 ∧ s7 = .int .i64 (q : Int) ∧ Hid (BfsI l f zn q L S nn) ∧ Hid (NbI n K Ns L) ∧ Hid (JdI w wr #[.int .i64 (zn : Int), .slice a n cap] J gn n (.slice (some ⟨gk, 0, none⟩) n n) vf vs Ns L S)) (fun _ s7 _ => 61 - (intOf s7).toNat)
 case atStart => exact ⟨0, 0, _, vf6, Ns6, [zn], [], rfl, rfl, HI0, NB6, D6⟩
 case round =>
  clear HI0 NB6 D6
  obtain ⟨q, nn, vs, vf, Ns, L, S, rfl, rfl, hI, hNB, hD⟩ := hrel
  obtain ⟨w7, hw7⟩ : ∃ w7, w7 = wr := ⟨_, rfl⟩
  subst hw7
  obtain ⟨hl60, hn4, hSl, hqL⟩ := hI.out.l60
  obtain ⟨al, cl, hvl⟩ := hD.out.jn.fs.sl
  subst hvl
  have j2 := hD.out.jn.jb.cell 2 (v := .slice al L.length cl) rfl
  obtain ⟨asv, cs, hvs⟩ := hD.out.sts.sts.sl
  rw [hSl] at hvs
  subst hvs
  by_cases hlt : q < L.length
  ·have q0 : (0 : Int) ≤ (q : Int) := Int.natCast_nonneg _
   have q1 : (q : Int) < (L.length : Int) := by omega
   obtain ⟨bL, oL, hbL, hbLl, c0⟩ := hD.out.jn.fs.cell hlt
   subst hbL
   have hol : el L q < n := hNB.out.low _ (el_mem hlt)
   obtain ⟨b, off, va, hab, hbl, g0, g1, gA⟩ := HC.out (el L q) hol
   subst hab
   have GA := hidP gA
   have g0 := (hD.out.bel.cell (p := ⟨b, off + el L q * 2, none⟩) hbl).trans g0
   have g1 := (hD.out.bel.cell (p := ⟨b, off + el L q * 2 + 1, none⟩) hbl).trans g1
   have HDN := hidP (fun Lc ar (h : ArcI l f L (el L q) (el l (el L q)).2.length Lc ar) => ArcI.done HR.out HF.out (by rw [HN.out]; exact hzl) hI.out hlt h)
   have HLN := hidP (fun i Lc ar (h : ArcI l f L (el L q) i Lc ar) hi => ArcI.len HR.out HF.out (by rw [HN.out]; exact hzl) hI.out hlt h hi)
   have A0 := hidP (ArcI.init (o := el L q) hI.out)
   have HTO : Hid (∀ i, i < (el l (el L q)).2.length → ∃ t : Nat, (el (el l (el L q)).2 i).2.2.2 = (t : Int) ∧ t < n) := fun i hi => by have h9 := to_of HR.out (el L q) (by rw [HN.out]; exact hol) _ (el_mem hi); rw [HN.out] at h9; exact h9
   have h400 : (el l (el L q)).2.length ≤ 400 := (right_states HR.out (el L q) (by simp only; rw [HN.out]; exact hol)).2.1
   clear gA
   obtain ⟨o, ho⟩ : ∃ o, el L q = o := ⟨_, rfl⟩
   rw [ho] at c0 hol g0 g1 GA HDN HLN A0 HTO h400
   clear ho
   obtain ⟨so, hso⟩ : ∃ so, el l o = so := ⟨_, rfl⟩
   have HSO := hidP hso
   rw [hso] at g0 GA HDN HLN HTO h400
   clear hso
   obtain ⟨fin, ar⟩ := so
   simp only at g0 GA HDN HLN HTO h400
   obtain ⟨aa, ca, hva, _⟩ := GA.out.get
   subst hva
   have o0 : (0 : Int) ≤ (o : Int) := Int.natCast_nonneg _
   have o1 : (o : Int) < (n : Int) := by omega
   have HLED := hidP (fun W (hW : JnI W (w.heap.size + 2) J gn n (.slice (some ⟨gk, 0, none⟩) n n) (.slice (some ⟨bL, oL, none⟩) L.length cl) Ns L) (hb : Below w.heap.size w W) (hz : w.heap.size + 2 ≤ W.heap.size) => led_any w W l f L o (w.heap.size + 2) J gn gk n _ K Ns (.slice aa ar.length ca) fin ar hW hNB.out HKR.out HKL.out HBK.out GA.out hb (by omega) h60 HN.out hz HKF.out HSO.out HTO.out h400 A0.out HLN.out)
   obtain ⟨nA, hnA⟩ : ∃ nA, ar.length = nA := ⟨_, rfl⟩
   rw [hnA] at g1 HDN HLED h400
   clear hnA
   have hB8 : Below w7.heap.size w7 (w7.alloc (.cells #[.int .i64 fin, .slice aa nA ca] 56)).drew := ((Below.refl w7.heap.size w7).alloc (Nat.le_refl _) _).drew
   have D8 := hidP (hD.out.later hB8)
   have S8 : Hid (Blk (w7.alloc (.cells #[.int .i64 fin, .slice aa nA ca] 56)).drew w7.heap.size #[.int .i64 fin, .slice aa nA ca] 56) := Blk.made w7 #[.int .i64 fin, .slice aa nA ca] 56
   have HS : HeldOx w.heap.size (.slice (some ⟨b, off, none⟩) n cap) J (.slice (some ⟨bL, oL, none⟩) L.length cl) bL (oL + q) o b (off + o * 2) fin (.slice aa nA ca) w7 := ⟨hD.out.mb.cell 1 rfl, j2, c0, g0, g1⟩
   have HSd : HeldOx w.heap.size (.slice (some ⟨b, off, none⟩) n cap) J (.slice (some ⟨bL, oL, none⟩) L.length cl) bL (oL + q) o b (off + o * 2) fin (.slice aa nA ca) w7.drew := HS.later (Below.refl w7.heap.size w7).drew
   have HSa : HeldOx w.heap.size (.slice (some ⟨b, off, none⟩) n cap) J (.slice (some ⟨bL, oL, none⟩) L.length cl) bL (oL + q) o b (off + o * 2) fin (.slice aa nA ca) (w7.alloc (.cells #[.int .i64 fin, .slice aa nA ca] 56)).drew := HS.later hB8
   have hSs : some w7.heap.size ≠ (Value.slice asv q cs).ownBlock := fun e => by
    obtain ⟨us, u1, _, _⟩ := hD.out.sts
    have := (u1.lt _ e.symm).2
    omega
   have HSs := hidP hSs
   clear c0 g0 g1 GA HS hB8 HLN A0 HTO hSs
   go_upto_region 7 with fail
   clear j2
   refine region_anyL (HeldOx w.heap.size (.slice (some ⟨b, off, none⟩) n cap) J (.slice (some ⟨bL, oL, none⟩) L.length cl) bL (oL + q) o b (off + o * 2) fin (.slice aa nA ca)) 1000 (by kernel_rfl) ?_
   refine anyL_tk (i := 0) (v := ?v0_1) aZ0 (by kernel_rfl) ?y0_1 HSd ?r0_1
   case y0_1 => intro wx hx; obtain ⟨h0, h1, h2, h3, h4⟩ := hx; go_simp; try (with_reducible rfl)
   simp only [Act.put, List.setIfInBounds_toArray, List.set_cons_zero, List.set_cons_succ]
   refine anyL_tk (i := 1) (v := ?v1_2) aZ1 (by kernel_rfl) ?y1_2 HSd ?r1_2
   case y1_2 => intro wx hx; obtain ⟨h0, h1, h2, h3, h4⟩ := hx; go_simp; try (with_reducible rfl)
   simp only [Act.put, List.setIfInBounds_toArray, List.set_cons_zero, List.set_cons_succ]
   refine anyL_tk (i := 2) (v := ?v2_3) aZ2 (by kernel_rfl) ?y2_3 HSd ?r2_3
   case y2_3 => intro wx hx; obtain ⟨h0, h1, h2, h3, h4⟩ := hx; go_simp; try (with_reducible rfl)
   simp only [Act.put, List.setIfInBounds_toArray, List.set_cons_zero, List.set_cons_succ]
   refine anyL_tk (i := 3) (v := ?v3_4) aZ3 (by kernel_rfl) ?y3_4 HSd ?r3_4
   case y3_4 => intro wx hx; obtain ⟨h0, h1, h2, h3, h4⟩ := hx; go_simp; try (with_reducible rfl)
   simp only [Act.put, List.setIfInBounds_toArray, List.set_cons_zero, List.set_cons_succ]
   refine anyL_tk (i := 4) (v := ?v4_5) aZ4 (by kernel_rfl) ?y4_5 HSd ?r4_5
   case y4_5 => intro wx hx; obtain ⟨h0, h1, h2, h3, h4⟩ := hx; go_simp; try (with_reducible rfl)
   simp only [Act.put, List.setIfInBounds_toArray, List.set_cons_zero, List.set_cons_succ]
   refine anyL_tk (i := 5) (v := ?v5_6) aZ5 (by kernel_rfl) ?y5_6 HSd ?r5_6
   case y5_6 => intro wx hx; obtain ⟨h0, h1, h2, h3, h4⟩ := hx; go_simp; try (with_reducible rfl)
   simp only [Act.put, List.setIfInBounds_toArray, List.set_cons_zero, List.set_cons_succ]
   refine anyL_tk (i := 6) (v := ?v6_7) aZ6 (by kernel_rfl) ?y6_7 HSd ?r6_7
   case y6_7 => intro wx hx; obtain ⟨h0, h1, h2, h3, h4⟩ := hx; go_simp; try (with_reducible rfl)
   simp only [Act.put, List.setIfInBounds_toArray, List.set_cons_zero, List.set_cons_succ]
   refine anyL_tk (i := 7) (v := ?v7_8) aZ7 (by kernel_rfl) ?y7_8 HSd ?r7_8
   case y7_8 => intro wx hx; obtain ⟨h0, h1, h2, h3, h4⟩ := hx; go_simp; try (with_reducible rfl)
   simp only [Act.put, List.setIfInBounds_toArray, List.set_cons_zero, List.set_cons_succ]
   refine anyL_tk (i := 8) (v := ?v8_9) aZ8 (by kernel_rfl) ?y8_9 HSd ?r8_9
   case y8_9 => intro wx hx; obtain ⟨h0, h1, h2, h3, h4⟩ := hx; go_simp; try (with_reducible rfl)
   simp only [Act.put, List.setIfInBounds_toArray, List.set_cons_zero, List.set_cons_succ]
   refine anyL_one (i := 9) aZ9 (by kernel_rfl) rfl (fun K hK => ?_)
   go_simp
   refine hK _ _ (.inr (HSd.later ((Below.refl _ _).alloc (Nat.le_refl _) _))) ?_
   try simp only [Act.put, List.setIfInBounds_toArray, List.set_cons_zero, List.set_cons_succ]
   refine anyL_one (i := 10) aZ10 (by kernel_rfl) rfl (fun K hK => ?_)
   go_simp
   refine hK _ _ (.inr HSa) (anyL_done (by kernel_rfl) (NoPanic.normal ?_))
   try simp only [Act.put, List.setIfInBounds_toArray, List.set_cons_zero, List.set_cons_succ]
   clear HSd HSa hD
   generalize (w7.alloc (.cells #[.int .i64 fin, .slice aa nA ca] 56)).drew = w8 at *
   obtain ⟨Sb, hSb⟩ : ∃ Sb, Sb = w7.heap.size := ⟨_, rfl⟩
   rw [← hSb] at S8 HSs ⊢
   clear hSb
   have D9 := hidP (D8.out.later (Below.refl w8.heap.size w8).drew)
   have S9 : Hid (Blk w8.drew Sb #[.int .i64 fin, .slice aa nA ca] 56) := S8.out
   have HT : HeldT2 Sb fin (.slice aa nA ca) w8.drew := ⟨S9.out.cell 0 rfl, S9.out.cell 1 rfl⟩
   have HC9 := hidP (HLED.out w8.drew D9.out.jn D9.out.bel D9.out.size)
   have hSJ : Sb ≠ J := blkNeL S9.out D9.out.jn.jb (by decide)
   clear D8 S8 HLED
   go_upto_region 8 with fail
   refine region_anyL (HeldT2 Sb fin (.slice aa nA ca)) 1000 (by kernel_rfl) ?_
   refine anyL_tk (i := 0) (v := ?v0_10) aZ0 (by kernel_rfl) ?y0_10 HT ?r0_10
   case y0_10 => intro wx hx; obtain ⟨h0, h1⟩ := hx; go_simp; try (with_reducible rfl)
   simp only [Act.put, List.setIfInBounds_toArray, List.set_cons_zero, List.set_cons_succ]
   refine anyL_tk (i := 1) (v := ?v1_11) aZ1 (by kernel_rfl) ?y1_11 HT ?r1_11
   case y1_11 => intro wx hx; obtain ⟨h0, h1⟩ := hx; go_simp; try (with_reducible rfl)
   simp only [Act.put, List.setIfInBounds_toArray, List.set_cons_zero, List.set_cons_succ]
   refine anyL_tk (i := 2) (v := ?v2_12) aZ2 (by kernel_rfl) ?y2_12 HT ?r2_12
   case y2_12 => intro wx hx; obtain ⟨h0, h1⟩ := hx; go_simp; try (with_reducible rfl)
   simp only [Act.put, List.setIfInBounds_toArray, List.set_cons_zero, List.set_cons_succ]
   refine anyL_tk (i := 3) (v := ?v3_13) aZ3 (by kernel_rfl) ?y3_13 HT ?r3_13
   case y3_13 => intro wx hx; obtain ⟨h0, h1⟩ := hx; go_simp; try (with_reducible rfl)
   simp only [Act.put, List.setIfInBounds_toArray, List.set_cons_zero, List.set_cons_succ]
   refine anyL_tk (i := 4) (v := ?v4_14) aZ4 (by kernel_rfl) ?y4_14 HT ?r4_14
   case y4_14 => intro wx hx; obtain ⟨h0, h1⟩ := hx; go_simp; try (with_reducible rfl)
   simp only [Act.put, List.setIfInBounds_toArray, List.set_cons_zero, List.set_cons_succ]
   refine anyL_one (i := 5) aZ5 (by kernel_rfl) rfl (fun K hK => ?_)
   go_simp
   with_reducible refine HC9.out.mono ?_
   rintro e w10 ⟨G, vf10, Ns10, Lc, ac, rfl, hA10, hN10, hJ10, hO10, hK10, hB10⟩
   have S10 := hidP (hK10.2 _ _ _ S9.out hSJ (by decide))
   have HT10 : HeldT2 Sb fin (.slice aa nA ca) w10 := ⟨S10.out.cell 0 rfl, S10.out.cell 1 rfl⟩
   have A10 := hidP hA10
   have N10 := hidP hN10
   have D10 := hidP (D9.out.next hB10 hJ10 (hK10.sts D9.out.jn.jb D9.out.sts))
   have O10 := hidP hO10
   clear hA10 hN10 hJ10 hO10 hK10 hB10 HC9 D9 S9
   refine hK _ _ (.inr HT10) ?_
   try simp only [Act.put, List.setIfInBounds_toArray, List.set_cons_zero, List.set_cons_succ]
   refine anyL_tk (i := 6) (v := ?v6_15) aZ6 (by kernel_rfl) ?y6_15 HT10 ?r6_15
   case y6_15 => intro wx hx; obtain ⟨h0, h1⟩ := hx; go_simp; try (with_reducible rfl)
   simp only [Act.put, List.setIfInBounds_toArray, List.set_cons_zero, List.set_cons_succ]
   have hA11 := (Below.refl w10.heap.size w10).alloc (Nat.le_refl _) (.cells #[.int .i64 fin, .slice (some ⟨G, 0, none⟩) nA nA] 56)
   have HT11 : HeldT2 Sb fin (.slice aa nA ca) (w10.alloc (.cells #[.int .i64 fin, .slice (some ⟨G, 0, none⟩) nA nA] 56)) := ⟨(S10.out.below hA11 S10.out.lt).cell 0 rfl, (S10.out.below hA11 S10.out.lt).cell 1 rfl⟩
   obtain ⟨v11, w11, r11, ho11, hb11, hg11⟩ := run_pushG (W := w10.alloc (.cells #[.int .i64 fin, .slice (some ⟨G, 0, none⟩) nA nA] 56)) (w1 := w10) (fin, ac) S (.slice (some ⟨G, 0, none⟩) nA nA) (.slice asv q cs) (w.heap.size + 2) rfl rfl rfl rfl D10.out.sts O10.out (by omega) D10.out.size
   obtain ⟨a11, c11, hv11⟩ := ho11.sts.sl
   rw [show (S ++ [(fin, ac)]).length = q + 1 by rw [List.length_append, hSl]; rfl] at hv11
   subst hv11
   obtain ⟨vs12, q12, _, _⟩ := (D10.out.later hA11).sts
   have J11 := (D10.out.later hA11).jn.kept q12 (by decide) (by decide) hg11
   have S11 : Blk w11 Sb #[.int .i64 fin, .slice aa nA ca] 56 := (S10.out.below hA11 S10.out.lt).grown hg11 HSs.out
   have HT12 : HeldT2 Sb fin (.slice aa nA ca) w11 := ⟨S11.cell 0 rfl, S11.cell 1 rfl⟩
   have D11 := hidP (D10.out.next hb11 J11 ho11)
   have R11 := hidP r11
   clear r11 ho11 hb11 hg11 J11 S11 q12 hA11 O10 S10
   refine anyL_one (i := 7) aZ7 (by kernel_rfl) rfl (fun K hK => ?_)
   go_simp
   refine hK _ _ (.inr HT11) ?_
   try simp only [Act.put, List.setIfInBounds_toArray, List.set_cons_zero, List.set_cons_succ]
   refine anyL_one (i := 8) aZ8 (by kernel_rfl) rfl (fun K hK => ?_)
   refine wp_append_run _ _ 27 rfl rfl rfl R11.out ?_
   refine hK _ _ (.inr HT12) ?_
   try simp only [Act.put, List.setIfInBounds_toArray, List.set_cons_zero, List.set_cons_succ]
   refine anyL_tk (i := 9) (v := ?v9_16) aZ9 (by kernel_rfl) ?y9_16 HT12 ?r9_16
   case y9_16 => intro wx hx; obtain ⟨h0, h1⟩ := hx; go_simp; try (with_reducible rfl)
   simp only [Act.put, List.setIfInBounds_toArray, List.set_cons_zero, List.set_cons_succ]
   refine anyL_done (by kernel_rfl) (NoPanic.normal ?_)
   try simp only [Act.put, List.setIfInBounds_toArray, List.set_cons_zero, List.set_cons_succ]
   have HNX := hidP (HDN.out Lc ac A10.out)
   clear HT HT10 HT11 HT12 HDN A10 R11 D10
   go_wp2
   go_roundw
   case rel => exact ⟨q + 1, nn + nA, _, vf10, Ns10, Lc, _, rfl, by go_num, HNX, N10, D11⟩
   case measure => simp [intOf]; omega
  ·have q1 : ¬ (q : Int) < (L.length : Int) := by omega
   have HXE := hidP (HEND.out _ (hI.out.stop hlt))
   have e0 := hD.out.rb.cell 0 (v := .int .i64 0) rfl
   have e1 := hD.out.rb.cell 1 (v := .slice none 0 0) rfl
   have g0 := hD.out.rb.fz 0
   have g1 := hD.out.rb.fz 1
   clear hSl
   repeat (first | go_skip | go_guarded | go_step | go_upon)
   exact bodyPost_ret (res_join _ _ (w.heap.size + 1) _ _ ((hD.out.rb.set 0 (.int .i64 0)).set 1 (.slice asv q cs)) rfl) rfl ⟨_, _, rfl, HXE.out, (hD.out.sts.setM hD.out.rb 0 _).setM (hD.out.rb.set 0 _) 1 _, (hD.out.bel.setCell (p := ⟨w.heap.size + 1, 0, none⟩) (by show w.heap.size ≤ w.heap.size + 1; omega) _).setCell (p := ⟨w.heap.size + 1, 1, none⟩) (by show w.heap.size ≤ w.heap.size + 1; omega) _⟩
end Go.Proofs.YtfhjncpakgailaaGreatDoor.Wt
