/- least.toldApart, least.kindsOf: states told apart by their signs. -/
import Derived.Test.YthajkkobgfighaaGreatDoorJal
import Derived.Test.YthajkkobgfighaaGreatDoorJah
namespace Go.Proofs.YthajkkobgfighaaGreatDoor.Wt
open Go.ChangeShapes Go.WideShapes Go.ChangeAt Go.RowKit Go.Maps
open Go.Proofs.YthajkkobgfighaaGreatDoor.Pl
set_option linter.unusedVariables false
set_option linter.unusedSimpArgs false
theorem TxM.len {w : World} {m : Nat} {ks : List (List UInt8)} (h : TxM w m ks) (ty : TypeId) : (Builtin.len_ #[89] ty #[.map (some m)]).run Tryz.prog w = .ok (.int .i64 (ks.length : Int)) w := by
 obtain ⟨D, h1, h2, _⟩ := h
 rw [World.ownsMap.len h1 Tryz.underlying89 ty, h2]
theorem TxM.laterL {w w' : World} {m : Nat} {ks : List (List UInt8)} (h : TxM w m ks) (hb : Below w.heap.size w w') : TxM w' m ks := h.keep (hb.block m h.lt)
theorem low_of {z : Int} {l : List St} (hr : faultM (z, l) = 0) {q : Nat} (hq : q < l.length) : (0 ≤ (el l q).1 ∧ (el l q).1 ≤ 2000000000000) ∧ (el l q).2.length ≤ 400 ∧ ∀ i, i < (el l q).2.length → (0 ≤ (el (el l q).2 i).1 ∧ (el (el l q).2 i).1 ≤ 2000000000000) ∧ (0 ≤ (el (el l q).2 i).2.1 ∧ (el (el l q).2 i).2.1 ≤ 2000000000000) ∧ (0 ≤ (el (el l q).2 i).2.2.1 ∧ (el (el l q).2 i).2.2.1 ≤ 2000000000000) ∧ ∃ t : Nat, (el (el l q).2 i).2.2.2 = (t : Int) ∧ t < l.length := by
 have h1 := right_states (m := (z, l)) hr q hq
 have h3 := (right_parts hr).2 (el l q) (el_mem hq)
 simp only [stB, Bool.and_eq_true, List.all_eq_true] at h3
 refine ⟨?_, h1.2.1, fun i hi => ?_⟩
 ·have h4 : finB (el l q).1 = true := h3.1
  simp [finB, inB] at h4
  omega
 ·obtain ⟨r1, r2, r4, r5, r6, r7, r8⟩ := arc_rightP (m := (z, l)) hr hq (el_mem hi)
  exact ⟨⟨r1, Int.le_trans r2 (by decide)⟩, ⟨r4, Int.le_trans r5 (by decide)⟩, ⟨r6, Int.le_trans r7 (by decide)⟩, r8⟩
set_option maxRecDepth 100000 in
set_option maxHeartbeats 6400000 in
theorem toldApart_any (z : Int) (l : List St) (a : Option Addr) (cap : Nat) (vk : Value) (K : List Int) (w : World) (h : Mach w (.agg #[.int .i64 z, .slice a l.length cap]) (z, l)) (hr : faultM (z, l) = 0) (hK : Nums w vk K) (hKl : K.length = l.length) (hKb : ∀ n ∈ K, 0 ≤ n ∧ n ≤ 1000) (ht : Tab w) :
  Calls Tryz.prog 29 #[.agg #[.int .i64 z, .slice a l.length cap], vk] w fun e w' => ∃ (g : Nat) (F : List Int) (n : Nat), e = .returned (.tuple #[.slice (some ⟨g, 0, none⟩) l.length l.length, .int .i64 (n : Int)]) ∧ Nxt l K F n ∧ Blk w' g (F.map (Value.int .i64)).toArray 3 ∧ w.heap.size ≤ g ∧ Below w.heap.size w w' := by
 obtain ⟨vs', hvs, hS⟩ := h
 simp only [Value.agg.injEq, Array.mk.injEq, List.cons.injEq, and_true, true_and] at hvs
 subst hvs
 obtain ⟨a', cap', hsl, hc⟩ := hS.get
 simp only [Value.slice.injEq, true_and] at hsl
 obtain ⟨rfl, rfl⟩ := hsl
 have h60 : l.length ≤ 60 := (right_size hr).1
 have HC : Hid (∀ j, j < l.length → ∃ b off va, a = some ⟨b, off, none⟩ ∧ b < w.heap.size ∧ w.cell? ⟨b, off + j * 2, none⟩ = some (.int .i64 (el l j).1) ∧ w.cell? ⟨b, off + j * 2 + 1, none⟩ = some va ∧ Arcs w va (el l j).2) := hc
 have HLO := hidP (fun q (hq : q < l.length) => low_of hr hq)
 have HSG : Hid (∀ q, q < l.length → ∀ n ∈ sgN K (el l q), 0 ≤ n ∧ n ≤ 2000000000000) := fun q hq n hn => by
  obtain ⟨h1, h2, h3⟩ := low_of hr hq
  rcases List.mem_cons.1 hn with rfl | hn
  ·exact h1
  ·obtain ⟨x, hx, hn⟩ := List.mem_flatMap.1 hn
   obtain ⟨i, hi, rfl⟩ := mem_el hx
   obtain ⟨g1, g2, g3, t, g4, g5⟩ := h3 i hi
   simp only [sgA, List.mem_cons, List.not_mem_nil, or_false] at hn
   rcases hn with rfl | rfl | rfl | rfl
   ·exact g1
   ·exact g2
   ·exact g3
   ·rw [g4, Int.toNat_natCast]
    have := hKb _ (el_mem (show t < K.length by omega))
    omega
 have HSL : Hid (∀ q, q < l.length → (sgT (sgN K (el l q))).length ≤ 1000000) := fun q hq => by
  have h1 := sgT_len (l := sgN K (el l q)) (fun n hn => by have := HSG.out q hq n hn; omega)
  have h2 : (sgN K (el l q)).length ≤ 1601 := by unfold sgN; rw [List.length_cons, sgA_len]; have := (low_of hr hq).2.1; omega
  omega
 have HDN : Hid (∀ ks F, KndI l K l.length ks F → Nxt l K F ks.length) := fun ks F hI => hI.done (fun q hq n hn => (HSG.out q hq n hn).1)
 have HI0 : Hid (KndI l K 0 [] (List.replicate l.length 0)) := KndI.init
 have HK := hidP hK
 have HKL := hidP hKl
 have HKB : Hid (∀ n ∈ K, 0 ≤ n ∧ n ≤ 2000000000000) := fun n hn => by have := hKb n hn; omega
 have HTB := hidP ht
 obtain ⟨ak, ck, hvk, _⟩ := hK.get
 subst hvk
 clear hS hc hr hK hKl hKb ht
 generalize hn : l.length = n at *
 have HN := hidP hn
 clear hn
 generalize hnk : K.length = nk at *
 have HNK := hidP hnk
 clear hnk
 have hmk := run_nums n (by omega)
 have hmm : ∀ W : World, (Instr.makeMap 89 none).run Tryz.prog W = .ok (.map (some W.heap.size)) (W.alloc (.map #[] 0)) := fun W => by simp [Instr.makeMap, run_underlying Tryz.underlying89]
 have hnot : ∀ (x : Bool) (w : World), (Op.unary .not (.bool x)).run Tryz.prog w = .ok (.bool (!x)) w := fun _ _ => rfl
 have hA1 := (Below.refl w.heap.size w).alloc (Nat.le_refl _) (.cells #[.int .i64 z, .slice a n cap] 24)
 have T1 := TxM.made (w.alloc (.cells #[.int .i64 z, .slice a n cap] 24))
 rw [World.size_alloc] at T1
 have hA2 := hA1.alloc hA1.size (.map #[] 0)
 have hA3 := hA2.alloc hA2.size (.cells (Array.replicate n (Value.int .i64 0)) 3)
 have G3 := Blk.made ((w.alloc (.cells #[.int .i64 z, .slice a n cap] 24)).alloc (.map #[] 0)) (Array.replicate n (Value.int .i64 0)) 3
 have T3 := hidP (T1.laterL ((Below.refl _ _).alloc (Nat.le_refl _) (.cells (Array.replicate n (Value.int .i64 0)) 3)))
 rw [World.size_alloc, World.size_alloc] at G3
 have G3' := hidP G3
 have W3 := hidP hA3
 rw [show Array.replicate n (Value.int .i64 0) = ((List.replicate n (0 : Int)).map (Value.int .i64)).toArray from by simp] at G3'
 clear hA1 hA2 hA3 T1 G3
 go_enter Tryz.func29, Tryz.ntmps29
 go_wp2
 obtain ⟨g, hg⟩ : ∃ g, g = w.heap.size + 1 + 1 := ⟨_, rfl⟩
 rw [← hg] at G3' ⊢
 have hgw : w.heap.size ≤ g := by omega
 obtain ⟨mb, hmb⟩ : ∃ mb, mb = w.heap.size + 1 := ⟨_, rfl⟩
 rw [← hmb] at T3 ⊢
 have hmw : w.heap.size ≤ mb := by omega
 clear hg hmb
 go_loopw [21] (fun i wr => ∃ (q : Nat) (ks : List (List UInt8)) (F : List Int), q ≤ n ∧ i = .int .i64 q ∧ Hid (KndI l K q ks F) ∧ Hid (TxM wr mb ks) ∧ Hid (Blk wr g (F.map (Value.int .i64)).toArray 3) ∧ Hid (Below w.heap.size w wr)) (fun i _ => n - (intOf i).toNat)
 case atStart => exact ⟨0, [], List.replicate n 0, Nat.zero_le _, rfl, HI0, T3, by (show Blk _ _ _ _); simpa using G3'.out, W3⟩
 case round =>
  clear HI0 T3 G3' W3
  obtain ⟨q, ks, F, hq, rfl, hI, hT, hG, hW⟩ := hrel
  obtain ⟨w5, hw5⟩ : ∃ w5, w5 = wr := ⟨_, rfl⟩
  subst hw5
  by_cases hlt : q < n
  ·have q0 : (0 : Int) ≤ (q : Int) := Int.natCast_nonneg _
   have q1 : (q : Int) < (n : Int) := by omega
   obtain ⟨b, off, va, hab, hbl, c0, c1, cA⟩ := HC.out q hlt
   subst hab
   have c0 := (hW.out.cell (p := ⟨b, off + q * 2, none⟩) hbl).trans c0
   have c1 := (hW.out.cell (p := ⟨b, off + q * 2 + 1, none⟩) hbl).trans c1
   obtain ⟨lf, ll, ls⟩ := HLO.out q hlt
   have hFl : F.length = n := by rw [hI.out.len, HN.out]
   have hkf : ks.length ≤ q := hI.out.few
   have HOLD := hidP (fun j hj e => hI.out.old (by rw [HN.out]; exact hlt) (j := j) hj e)
   have HNEW := hidP (hI.out.new (by rw [HN.out]; exact hlt))
   have hsl := HSL.out q hlt
   have hND := hI.out.nodup
   obtain ⟨s, hs⟩ : ∃ s, el l q = s := ⟨_, rfl⟩
   rw [hs] at c0 cA lf ll ls HOLD HNEW hsl
   clear hs
   obtain ⟨f, ar⟩ := s
   simp only at c0 cA lf ll ls
   obtain ⟨aa, ca, hva, hca⟩ := cA.get
   have CA := hidP cA
   subst hva
   clear hca cA
   have hA6 := (Below.refl w5.heap.size w5).alloc (Nat.le_refl _) (.cells #[.int .i64 f, .slice aa ar.length ca] 33)
   have W6 := hW.out.trans (hA6.mono hW.out.size)
   have HSN := hidP (signOf_any f (.slice aa ar.length ca) (.slice ak nk ck) ar K (w5.alloc (.cells #[.int .i64 f, .slice aa ar.length ca] 33)) (CA.out.later W6 (Nat.le_refl _)) (HK.out.later W6 (Nat.le_refl _)) (HTB.out.later W6) ll lf (fun i hi => by
    obtain ⟨x1, x2, x3, t, x4, x5⟩ := ls i hi
    exact ⟨x1, x2, x3, t, x4, by rw [HNK.out, HKL.out]; exact x5⟩) HKB.out)
   have HW6 := hidP W6
   have T6 := hidP (hT.out.laterL hA6)
   have G6 := hidP (hG.out.below hA6 hG.out.lt)
   clear hA6 W6 lf ll ls CA hW hT hG
   obtain ⟨tx, htx⟩ : ∃ tx, sgT (sgN K (f, ar)) = tx := ⟨_, rfl⟩
   rw [htx] at HOLD HNEW hsl HSN
   clear htx
   obtain ⟨nA, hnA⟩ : ∃ nA, ar.length = nA := ⟨_, rfl⟩
   rw [hnA] at c1 HSN T6 G6 HW6
   clear hnA
   by_cases hmem : tx ∈ ks
   ·obtain ⟨j, hj, hje⟩ := mem_el hmem
    have HI6 := hidP (HOLD.out j hj hje)
    have HLK := hidP (fun W' (hT' : TxM W' mb ks) => hT'.look_old hsl hND hj hje)
    obtain ⟨ts, hts⟩ : ∃ ts : ByteArray, ⟨tx.toArray⟩ = ts := ⟨_, rfl⟩
    rw [hts] at HLK HSN
    clear hmem hje hND hts HOLD HNEW hkf
    go_wp2_with (first
     | (go_at_call 60; (with_reducible refine HSN.out.mono ?_); rintro e w7 ⟨rfl, hb7⟩; have T7 := hidP (T6.out.laterL hb7); have hlk := HLK.out w7 T7.out; have G7 := hidP (G6.out.below hb7 G6.out.lt); have W7 := hidP (HW6.out.trans (hb7.mono HW6.out.size)); have e0 := num_cell G7.out (j := q) (by rw [hFl]; exact hlt); have f0 := G7.out.fz q; clear hb7 HSN HLK G6 T6 HW6))
    have G8 := hidP (G7.out.set q (.int .i64 (j : Int)))
    rw [set_num] at G8
    have T8 := hidP (T7.out.keep (Below.heap_setCell w7 ⟨g, q, none⟩ (.int .i64 (j : Int)) mb (T7.out.neBlk G7.out)))
    have W8 := hidP (W7.out.setCell (p := ⟨g, q, none⟩) hgw (.int .i64 (j : Int)))
    go_roundw
    case rel => exact ⟨q + 1, ks, _, by omega, by go_num, HI6, T8, G8, W8⟩
    case measure => simp [intOf]; omega
   ·have HI6 := hidP (HNEW.out hmem)
    have HLK := hidP (fun W' (hT' : TxM W' mb ks) => hT'.look_new hsl hmem)
    have HUP := hidP (fun W' (hT' : TxM W' mb ks) => hT'.put hsl hmem (by omega))
    have HLE := hidP (fun W' (hT' : TxM W' mb ks) => hT'.len)
    obtain ⟨ts, hts⟩ : ∃ ts : ByteArray, ⟨tx.toArray⟩ = ts := ⟨_, rfl⟩
    rw [hts] at HLK HSN HUP
    obtain ⟨nK, hnK⟩ : ∃ nK, ks.length = nK := ⟨_, rfl⟩
    rw [hnK] at HUP HLE HI6
    clear hmem hND hts HOLD HNEW hnK hkf
    go_wp2_with (first
     | (go_at_call 60; (with_reducible refine HSN.out.mono ?_); rintro e w7 ⟨rfl, hb7⟩; have T7 := hidP (T6.out.laterL hb7); have hlk := HLK.out w7 T7.out; have hle := HLE.out w7 T7.out; have G7 := hidP (G6.out.below hb7 G6.out.lt); have W7 := hidP (HW6.out.trans (hb7.mono HW6.out.size)); obtain ⟨w8, hup, hT8, hg8⟩ := HUP.out w7 T7.out; have T8 := hidP hT8; have G8 := hidP (G7.out.grown hg8 (fun e => T7.out.neBlk G7.out (by injection e with e; exact e.symm))); have W8 := hidP (W7.out.grown hg8 W7.out.size (fun k hk => by cases hk; exact hmw)); have e0 := num_cell G8.out (j := q) (by rw [hFl]; exact hlt); have f0 := G8.out.fz q; clear hb7 HSN HLK G6 T6 HW6 hT8 hg8 HUP HLE))
    have G9 := hidP (G8.out.set q (.int .i64 (nK : Int)))
    rw [set_num] at G9
    have T9 := hidP (T8.out.keep (Below.heap_setCell w8 ⟨g, q, none⟩ (.int .i64 (nK : Int)) mb (T8.out.neBlk G8.out)))
    have W9 := hidP (W8.out.setCell (p := ⟨g, q, none⟩) hgw (.int .i64 (nK : Int)))
    go_roundw
    case rel => exact ⟨q + 1, _, _, by omega, by go_num, HI6, T9, G9, W9⟩
    case measure => simp [intOf]; omega
  ·have hk1 : ¬ (q : Int) < (n : Int) := by omega
   obtain rfl : q = n := by omega
   have HX := hidP (HDN.out ks F hI.out)
   have hle := hT.out.len
   obtain ⟨nK, hnK⟩ : ∃ nK, ks.length = nK := ⟨_, rfl⟩
   rw [hnK] at hle HX
   clear hnK
   go_wp2
   go_ret2
   first | exact ⟨g, F, nK, rfl, HX.out, hG.out, hgw, hW.out⟩ | exact ⟨g, nK, rfl, F, HX.out, hG.out, hgw, hW.out⟩ | exact ⟨nK, rfl, ⟨F, HX.out, hG.out, hgw, hW.out⟩⟩
structure KndF (l : List St) (K : List Int) : Prop where
 len : K.length = l.length
 rng : ∀ q, q < l.length → ∃ j : Nat, el K q = (j : Int) ∧ j < l.length
 iff : ∀ q p, q < l.length → p < l.length → (el K q = el K p ↔ Alk l q p)
set_option maxRecDepth 100000 in
set_option maxHeartbeats 3200000 in
theorem kindsOf_any (z : Int) (l : List St) (a : Option Addr) (cap : Nat) (w : World) (h : Mach w (.agg #[.int .i64 z, .slice a l.length cap]) (z, l)) (hr : faultM (z, l) = 0) (h0 : 0 < l.length) (ht : Tab w) :
  Calls Tryz.prog 12 #[.agg #[.int .i64 z, .slice a l.length cap]] w fun e w' => ∃ (g : Nat) (K : List Int), e = .returned (.slice (some ⟨g, 0, none⟩) l.length l.length) ∧ KndF l K ∧ Blk w' g (K.map (Value.int .i64)).toArray 3 ∧ w.heap.size ≤ g ∧ Below w.heap.size w w' := by
 have h60 : l.length ≤ 60 := (right_size hr).1
 have HM := hidP h
 have HTB := hidP ht
 have HCA : Hid (∀ W g K nn, Below w.heap.size w W → Knd l K nn → Blk W g (K.map (Value.int .i64)).toArray 3 → Calls Tryz.prog 29 #[.agg #[.int .i64 z, .slice a l.length cap], .slice (some ⟨g, 0, none⟩) l.length l.length] W fun e w' => ∃ (g : Nat) (F : List Int) (n : Nat), e = .returned (.tuple #[.slice (some ⟨g, 0, none⟩) l.length l.length, .int .i64 (n : Int)]) ∧ Nxt l K F n ∧ Blk w' g (F.map (Value.int .i64)).toArray 3 ∧ W.heap.size ≤ g ∧ Below W.heap.size W w') := fun W g K nn hW hK hB => by
  have hn := nums_block (cap := l.length) hB
  rw [hK.len] at hn
  exact toldApart_any z l a cap _ K W (h.later hW (Nat.le_refl _)) hr hn hK.len (fun x hx => by
   obtain ⟨q, hq, rfl⟩ := mem_el hx
   rw [hK.len] at hq
   obtain ⟨j, hj, hjn⟩ := hK.rng q hq
   have := hK.few
   rw [hj]
   omega) (ht.later hW)
 have HMO : Hid (∀ K F nn k, Knd l K nn → Nxt l K F k → nn ≤ k ∧ k ≤ l.length ∧ Knd l F k) := fun K F nn k h1 h2 => ⟨(h2.more h1).1, (h2.knd (to_of hr) h1).few, h2.knd (to_of hr) h1⟩
 have HEN : Hid (∀ K F nn, Knd l K nn → Nxt l K F nn → KndF l K) := fun K F nn h1 h2 => ⟨h1.len, fun q hq => by
  obtain ⟨j, hj, hjn⟩ := h1.rng q hq
  have := h1.few
  exact ⟨j, hj, by omega⟩, h2.stop (to_of hr) h1⟩
 have HI0 := hidP (knd_start h0)
 clear h hr ht
 generalize hn : l.length = n at *
 clear hn
 have hmk := run_nums n (by omega)
 have hA1 := (Below.refl w.heap.size w).alloc (Nat.le_refl _) (.cells #[.int .i64 z, .slice a n cap] 24)
 have W2 := hidP (hA1.alloc hA1.size (.cells (Array.replicate n (Value.int .i64 0)) 3))
 have G2 := Blk.made (w.alloc (.cells #[.int .i64 z, .slice a n cap] 24)) (Array.replicate n (Value.int .i64 0)) 3
 rw [World.size_alloc] at G2
 have G2' : Hid (Blk ((w.alloc (.cells #[.int .i64 z, .slice a n cap] 24)).alloc (.cells (Array.replicate n (Value.int .i64 0)) 3)) (w.heap.size + 1) ((List.replicate n (0 : Int)).map (Value.int .i64)).toArray 3) := by
  (show Blk _ _ _ _)
  simpa using G2
 have K2 := hidP ((Blk.made w #[.int .i64 z, .slice a n cap] 24).alloc (.cells (Array.replicate n (Value.int .i64 0)) 3))
 clear hA1 G2
 go_enter Tryz.func12, Tryz.ntmps12
 go_wp2
 go_loopw [3, 4] (fun s3 s4 wr => ∃ (g : Nat) (K : List Int) (nn : Nat), s3 = .slice (some ⟨g, 0, none⟩) n n ∧ s4 = .int .i64 (nn : Int) ∧ nn ≤ n ∧ w.heap.size ≤ g ∧ Hid (Knd l K nn) ∧ Hid (Blk wr g (K.map (Value.int .i64)).toArray 3) ∧ Hid (Blk wr w.heap.size #[.int .i64 z, .slice a n cap] 24) ∧ Hid (Below w.heap.size w wr)) (fun _ s4 _ => n - (intOf s4).toNat)
 case atStart => exact ⟨w.heap.size + 1, List.replicate n 0, 1, rfl, rfl, by omega, by omega, HI0, G2', K2, W2⟩
 case round =>
  clear HI0 G2' K2 W2
  obtain ⟨g, K, nn, rfl, rfl, hnn, hgw, hK, hG, hMb, hW⟩ := hrel
  obtain ⟨w3, hw3⟩ : ∃ w3, w3 = wr := ⟨_, rfl⟩
  subst hw3
  have HC := hidP (HCA.out w3 g K nn hW.out hK.out hG.out)
  have m0 := hMb.out.cell 0 (v := .int .i64 z) rfl
  have m1 := hMb.out.cell 1 (v := .slice a n cap) rfl
  go_upto_region 3 with (first
   | (go_at_call 29; (with_reducible refine HC.out.mono ?_); rintro e w4 ⟨g4, F, k, rfl, hx4, hg4, hge4, hb4⟩; have X4 := hidP hx4; have G4 := hidP hg4; have G0 := hidP (hG.out.below hb4 hG.out.lt); have M4 := hidP (hMb.out.below hb4 hMb.out.lt); have W4 := hidP (hW.out.trans (hb4.mono hW.out.size)); have hgw4 := Nat.le_trans hW.out.size hge4; clear hx4 hg4 hge4 hb4 HC hG hMb))
  clear m0 m1
  obtain ⟨hk1, hk2, hk3⟩ := HMO.out K F nn k hK.out X4.out
  by_cases hkn : k = nn
  ·subst hkn
   have HF := hidP (HEN.out K F k hK.out X4.out)
   clear hk3
   go_wp2
   go_ret
   first | exact ⟨g, K, rfl, HF.out, G0.out, hgw, W4.out⟩ | exact ⟨g, rfl, K, HF.out, G0.out, hgw, W4.out⟩
  ·have hne : ((k : Int) == (nn : Int)) = false := by simp; omega
   have HK3 := hidP hk3
   have hlt : nn < k := by omega
   clear hk3
   go_wp2
   go_roundw
   case rel => exact ⟨g4, F, k, rfl, rfl, hk2, hgw4, HK3, G4, M4, W4⟩
   case measure => simp [intOf]; omega
end Go.Proofs.YthajkkobgfighaaGreatDoor.Wt
