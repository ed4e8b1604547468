/- least.signOf: a state's sign as a text (where the table of powers of ten that the standard library reads is as its text lays it). -/
import Derived.Test.YthajkkobgfighaaGreatDoorJak
import Derived.Test.YthajkkobgfighaaGreatDoorJai
import Derived.Test.YthajkkobgfighaaGreatDoorJab
import Derived.Test.YthajkkobgfighaaGreatDoorJad
import Derived.Deep.DeepCutAuto
import Derived.Test.YthajkkobgfighaaGreatDoorJah
import Derived.Maps.Own
import Derived.Maps.OwnSet
import Derived.Maps.Views
import Derived.WideKeyEntry
import Derived.BigQuiet
namespace Go.Proofs.YthajkkobgfighaaGreatDoor.Wt
open Go.ChangeShapes Go.WideShapes Go.ChangeAt Go.RowKit
open Go.Proofs.YthajkkobgfighaaGreatDoor.Pl
set_option linter.unusedVariables false
set_option linter.unusedSimpArgs false
theorem sgT_take {ns : List Int} {k : Nat} (hk : k < ns.length) : sgT (ns.take (k + 1)) = (sgT (ns.take k) ++ dgT (el ns k)) ++ [32] := by
 rw [take_el hk, sgT_snoc]
theorem sgT_take_len {ns : List Int} (h : ∀ n ∈ ns, 0 ≤ n ∧ n ≤ 2000000000000) (hl : ns.length ≤ 10000) (k : Nat) : (sgT (ns.take k)).length ≤ 140000 := by
 have h1 := sgT_len (l := ns.take k) (fun p hp => by have := h p (List.mem_of_mem_take hp); omega)
 have h2 : (ns.take k).length ≤ 10000 := by rw [List.length_take]; omega
 omega
set_option maxRecDepth 100000 in
set_option maxHeartbeats 3200000 in
theorem signW_any (w0 w : World) (B b g : Nat) (T : List UInt8) (ns : List Int) (hN : Blk w g (ns.map (Value.int .i64)).toArray 3) (hB : Bld B b T w) (ht : Tab w0) (hb0 : Below w0.heap.size w0 w) (hB0 : w0.heap.size ≤ B) (hs : ∀ n ∈ ns, 0 ≤ n ∧ n ≤ 2000000000000) (hl : ns.length ≤ 10000) (hT : T.length ≤ 800000) (hBw : B ≤ w.heap.size) (cap n : Nat) (hn : ns.length = n) :
  Calls Tryz.prog 92 #[.slice (some ⟨g, 0, none⟩) n cap, .pointer (some ⟨b, 0, none⟩)] w fun e w' => e = .returned (.tuple #[]) ∧ (Bld B b (T ++ sgT ns) w' ∧ Below B w w' ∧ Oth w w') := by
 have HN := hidP hN
 have HTB := hidP ht
 have HB0 := hidP hb0
 have HLN := hidP (sgT_take_len hs hl)
 have HTL : Hid (∀ k, k < ns.length → sgT (ns.take (k + 1)) = (sgT (ns.take k) ++ dgT (el ns k)) ++ [32]) := fun k hk => sgT_take hk
 have HALL : Hid (sgT (ns.take ns.length) = sgT ns) := by show _ = _; rw [List.take_length]
 have HEL : Hid (∀ k, k < ns.length → 0 ≤ el ns k ∧ el ns k ≤ 2000000000000) := fun k hk => hs _ (el_mem hk)
 have HBS : Hid (Bld B b (T ++ sgT (ns.take 0)) w) := by show Bld _ _ _ _; simpa [sgT] using hB
 have HW0 := hidP (Below.refl B w)
 have HO0 := hidP (Oth.refl w)
 clear hN hB ht hb0 hs
 rw [hn] at hl HTL HALL HEL
 have HNN := hidP hn
 clear hn
 go_enter Tryz.func92, Tryz.ntmps92
 go_wp2
 go_loopw [7] (fun i wr => ∃ k : Nat, k ≤ n ∧ i = .int .i64 k ∧ Hid (Bld B b (T ++ sgT (ns.take k)) wr) ∧ Hid (Below B w wr) ∧ Hid (Oth w wr)) (fun i _ => n - (intOf i).toNat)
 case atStart => exact ⟨0, Nat.zero_le _, rfl, HBS, HW0, HO0⟩
 case round =>
  clear HBS HW0 HO0
  obtain ⟨k, hk, rfl, hB, hW, hO⟩ := hrel
  obtain ⟨w1, hw1⟩ : ∃ w1, w1 = wr := ⟨_, rfl⟩
  subst hw1
  by_cases hlt : k < n
  ·have k0 : (0 : Int) ≤ (k : Int) := Int.natCast_nonneg _
   have k1 : (k : Int) < (n : Int) := by omega
   have c0 := num_cell (hO.out.blk HN.out (by decide) (by decide)) (j := k) (by rw [HNN.out]; exact hlt)
   have hsh := HEL.out k hlt
   have HTK := hidP (HTL.out k hlt)
   have HL1 := hidP (HLN.out k)
   obtain ⟨p, hpk⟩ : ∃ p, el ns k = p := ⟨_, rfl⟩
   rw [hpk] at c0 hsh HTK
   clear hpk
   obtain ⟨s0, hs0⟩ : ∃ s0 : ByteArray, ⟨(dgT p).toArray⟩ = s0 := ⟨_, rfl⟩
   have e0 : s0.data.toList = dgT p := by rw [← hs0]
   have z0 : s0.size ≤ 13 := by rw [← hs0]; exact dgT_len (by omega)
   have HI0 := hidP (fun W hW => itoa_dg p W hW hsh.1 (by omega) s0 hs0)
   have hq0 : s0.data.toList.length ≤ 13 := z0
   obtain ⟨U, hU⟩ : ∃ U, T ++ sgT (ns.take k) = U := ⟨_, rfl⟩
   have HUN : Hid (T ++ sgT (ns.take (k + 1)) = (U ++ s0.data.toList) ++ [32]) := by
    show _ = _
    rw [HTK.out, ← hU, e0]
    simp
   have HLA : Hid (U.length ≤ 1000000 ∧ (U ++ s0.data.toList).length ≤ 1000000) := by
    have := HL1.out
    rw [← hU]
    simp only [List.length_append]
    exact ⟨by omega, by omega⟩
   rw [hU] at hB
   clear hU hs0 e0 hsh HL1 HTK
   have W1 := hidP (HB0.out.trans (hW.out.mono hB0))
   have hws := Nat.le_trans hBw hW.out.size
   go_wp2_with (first
    | (go_at_call 94; (with_reducible refine (HI0.out _ (HTB.out.later W1.out)).mono ?_); rintro e w2 ⟨rfl, hb2⟩; have B2 := hidP (hB.out.later hb2); have W2 := hidP (hW.out.trans (hb2.mono hws)); have O2 := hidP (hO.out.trans (Oth.of hb2)); clear hb2 HI0 W1 hB hW hO)
    | (go_at_call 93; (with_reducible refine (write_bytes _ _ _ s0 _ B2.out HLA.out.1 (by omega) (Nat.le_trans hBw W2.out.size)).mono ?_); rintro e w3 ⟨rfl, hB3, hb3, ho3⟩; have B3 := hidP hB3; have W3 := hidP (W2.out.trans hb3); have O3 := hidP (O2.out.trans ho3); clear hB3 hb3 ho3 B2 W2 O2)
    | (go_at_call 95; (with_reducible refine (writeByte_any _ _ _ 32 32 _ B3.out rfl HLA.out.2 (Nat.le_trans hBw W3.out.size)).mono ?_); rintro e w4 ⟨rfl, hB4, hb4, ho4⟩; have B4 := hidP hB4; have W4 := hidP (W3.out.trans hb4); have O4 := hidP (O3.out.trans ho4); clear hB4 hb4 ho4 B3 W3 O3))
   go_roundw
   case rel => exact ⟨k + 1, by omega, by go_num, by rw [HUN.out]; exact B4, W4, O4⟩
   case measure => simp [intOf]; omega
  ·have hk1 : ¬ (k : Int) < (n : Int) := by omega
   obtain rfl : k = n := by omega
   rw [HALL.out] at hB
   go_wp2
   go_end0
   exact ⟨rfl, hB.out, hW.out, hO.out⟩
structure HeldRl (A : Nat) (x0 x1 x2 t : Int) (b o : Nat) (y : Int) (w : World) : Prop where
 h0 : w.cell? ⟨A, 0, none⟩ = some (.int .i64 x0)
 h1 : w.cell? ⟨A, 1, none⟩ = some (.int .i64 x1)
 h2 : w.cell? ⟨A, 2, none⟩ = some (.int .i64 x2)
 h3 : w.cell? ⟨A, 3, none⟩ = some (.int .i64 t)
 h4 : w.cell? ⟨b, o, none⟩ = some (.int .i64 y)
theorem HeldRl.later {A : Nat} {x0 x1 x2 t : Int} {b o : Nat} {y : Int} {w w' : World} (h : HeldRl A x0 x1 x2 t b o y w) (hb : Below w.heap.size w w') : HeldRl A x0 x1 x2 t b o y w' :=
 ⟨(hb.cell (World.block_lt_of_cell? _ _ h.h0)).trans h.h0, (hb.cell (World.block_lt_of_cell? _ _ h.h1)).trans h.h1, (hb.cell (World.block_lt_of_cell? _ _ h.h2)).trans h.h2, (hb.cell (World.block_lt_of_cell? _ _ h.h3)).trans h.h3, (hb.cell (World.block_lt_of_cell? _ _ h.h4)).trans h.h4⟩
theorem sgA_take {K : List Int} {l : List Ar} {k : Nat} (h : k < l.length) : (l.take (k + 1)).flatMap (sgA K) = (l.take k).flatMap (sgA K) ++ sgA K (el l k) := by
 rw [take_el h, List.flatMap_append]
 simp
set_option maxRecDepth 100000 in
set_option maxHeartbeats 6400000 in
theorem signOf_any (f : Int) (va vk : Value) (l : List Ar) (K : List Int) (w : World) (hA : Arcs w va l) (hK : Nums w vk K) (ht : Tab w) (hl : l.length ≤ 400) (hf : 0 ≤ f ∧ f ≤ 2000000000000) (hs : ∀ i, i < l.length → (0 ≤ (el l i).1 ∧ (el l i).1 ≤ 2000000000000) ∧ (0 ≤ (el l i).2.1 ∧ (el l i).2.1 ≤ 2000000000000) ∧ (0 ≤ (el l i).2.2.1 ∧ (el l i).2.2.1 ≤ 2000000000000) ∧ ∃ t : Nat, (el l i).2.2.2 = (t : Int) ∧ t < K.length) (hk : ∀ n ∈ K, 0 ≤ n ∧ n ≤ 2000000000000) :
  Calls Tryz.prog 60 #[.agg #[.int .i64 f, va], vk] w fun e w' => e = .returned (.string ⟨(sgT (sgN K (f, l))).toArray⟩) ∧ Below w.heap.size w w' := by
 obtain ⟨a, cap, rfl, hc⟩ := hA.get
 obtain ⟨ak, ck, rfl, hkc⟩ := hK.get
 have HC := hidP hc
 have HKC := hidP hkc
 have HTB := hidP ht
 have HS := hidP hs
 have HNT : Hid (∀ k, k < l.length → sgT (f :: (l.take (k + 1)).flatMap (sgA K)) = sgT (f :: (l.take k).flatMap (sgA K)) ++ sgT (sgA K (el l k))) := fun k hk => by rw [sgA_take hk, ← List.cons_append, sgT_app]
 have HN0 : Hid (sgT (f :: (l.take 0).flatMap (sgA K)) = sgT [f]) := rfl
 have HNE : Hid (sgT (f :: (l.take l.length).flatMap (sgA K)) = sgT (sgN K (f, l))) := by show _ = _; rw [List.take_length]; rfl
 have HNZ : Hid (sgT (sgN K (f, l)) ≠ []) := fun e => by have h9 := congrArg List.length e; simp [sgN, sgT] at h9
 have HBN : Hid (∀ k, (sgT (f :: (l.take k).flatMap (sgA K))).length ≤ 100000) := fun k => by
  have h1 := sgT_len (l := f :: (l.take k).flatMap (sgA K)) (fun n hn => by
   rcases List.mem_cons.1 hn with rfl | hn
   ·omega
   ·obtain ⟨a, ha, hn⟩ := List.mem_flatMap.1 hn
    obtain ⟨i, hi, rfl⟩ := mem_el (List.mem_of_mem_take ha)
    obtain ⟨g1, g2, g3, t, g4, g5⟩ := hs i hi
    simp only [sgA, List.mem_cons, List.not_mem_nil, or_false] at hn
    rcases hn with rfl | rfl | rfl | rfl
    ·omega
    ·omega
    ·omega
    ·rw [g4, Int.toNat_natCast]
     have := hk _ (el_mem g5)
     omega)
  have h2 : (f :: (l.take k).flatMap (sgA K)).length ≤ 1601 := by rw [List.length_cons, sgA_len, List.length_take]; omega
  omega
 have HKB : Hid (∀ t, t < K.length → 0 ≤ el K t ∧ el K t ≤ 2000000000000) := fun t ht => hk _ (el_mem ht)
 have hmf : ∀ (fn : Fn) (first cap : Array Value) (w : World), (Instr.makeFunc fn first cap).run Tryz.prog w = .ok (.func fn first cap) w := fun _ _ _ _ => rfl
 obtain ⟨R, hR⟩ : ∃ R, sgT (sgN K (f, l)) = R := ⟨_, rfl⟩
 rw [hR] at HNE HNZ ⊢
 clear hR hA hK ht hc hkc hs hk
 obtain ⟨n, hn⟩ : ∃ n, l.length = n := ⟨_, rfl⟩
 rw [hn] at hl HC HS HNT HNE ⊢
 clear hn
 obtain ⟨nk, hnk⟩ : ∃ nk, K.length = nk := ⟨_, rfl⟩
 rw [hnk] at HKC HS HKB ⊢
 clear hnk
 obtain ⟨TX, hTX⟩ : ∃ TX : Nat → List UInt8, (fun k => sgT (f :: (l.take k).flatMap (sgA K))) = TX := ⟨_, rfl⟩
 have HNT : Hid (∀ k, k < n → TX (k + 1) = TX k ++ sgT (sgA K (el l k))) := fun k hk => by rw [← hTX]; exact HNT.out k hk
 have HN0 : Hid (TX 0 = sgT [f]) := by show _ = _; rw [← hTX]; exact HN0.out
 have HNE : Hid (TX n = R) := by show _ = _; rw [← hTX]; exact HNE.out
 have HBN : Hid (∀ k, (TX k).length ≤ 100000) := fun k => by rw [← hTX]; exact HBN.out k
 clear hTX
 have hA0 := (Below.refl w.heap.size w).alloc (Nat.le_refl _) (.cells #[.int .i64 f, .slice a n cap] 33)
 have HB0 := hidP (Bld.made (w.alloc (.cells #[.int .i64 f, .slice a n cap] 33)))
 rw [World.size_alloc] at HB0
 have HW0 := hidP (hA0.alloc hA0.size (.cells #[.pointer none, .slice none 0 0] 126))
 have HS0 := hidP ((Blk.made w #[.int .i64 f, .slice a n cap] 33).alloc (.cells #[.pointer none, .slice none 0 0] 126))
 clear hA0
 go_enter Tryz.func60, Tryz.ntmps60
 go_upto_region 3 with fail
 have hsz : ((w.alloc (.cells #[.int .i64 f, .slice a n cap] 33)).alloc (.cells #[.pointer none, .slice none 0 0] 126)).heap.size = w.heap.size + 2 := by simp
 generalize ((w.alloc (.cells #[.int .i64 f, .slice a n cap] 33)).alloc (.cells #[.pointer none, .slice none 0 0] 126)) = w1 at *
 have s0 := HS0.out.cell 0 (v := .int .i64 f) rfl
 have HB1 := hidP (HB0.out.later ((Below.refl w1.heap.size w1).alloc (Nat.le_refl _) (.cells #[.int .i64 f] 3)))
 have HW1 := hidP (HW0.out.alloc HW0.out.size (.cells #[.int .i64 f] 3))
 have HS1 := hidP (HS0.out.alloc (.cells #[.int .i64 f] 3))
 have HC1 := hidP (signW_any w (w1.alloc (.cells #[.int .i64 f] 3)) (w.heap.size + 1) (w.heap.size + 1) w1.heap.size [] [f] (Blk.made w1 #[.int .i64 f] 3) HB1.out HTB.out HW1.out (by omega) (fun n hn => by rw [List.mem_singleton] at hn; rw [hn]; exact hf) (by simp) (by simp) (by simp; omega) 1 1 rfl)
 have HSZ := hidP hsz
 clear HB0 HW0 HS0 hsz
 go_wp2_with (first
  | ((first | go_at_call 92 | go_at_fn 92); (with_reducible refine HC1.out.mono ?_); rintro e w2 ⟨rfl, hB2, hb2, ho2⟩; have B2 : Hid (Bld (w.heap.size + 1) (w.heap.size + 1) (TX 0) w2) := (by (show Bld _ _ _ _); rw [HN0.out]; simpa using hB2); have W2 := hidP (HW1.out.trans (hb2.mono (by have := HSZ.out; omega))); have S2 := hidP (HS1.out.below hb2 (by have := HSZ.out; omega)); have s1 := S2.out.cell 1 (v := .slice a n cap) rfl; have hz2 := hb2.size; clear hB2 hb2 ho2 HC1 HB1 HW1 HS1))
 have hz3 : w.heap.size + 2 ≤ w2.heap.size := by have h9 := HSZ.out; simp at hz2; omega
 clear hz2 HSZ s1
 go_loopw [18] (fun i wr => ∃ k : Nat, k ≤ n ∧ i = .int .i64 k ∧ Hid (Bld (w.heap.size + 1) (w.heap.size + 1) (TX k) wr) ∧ Hid (Below w.heap.size w wr) ∧ w.heap.size + 2 ≤ wr.heap.size) (fun i _ => n - (intOf i).toNat)
 case atStart => exact ⟨0, Nat.zero_le _, rfl, B2, W2, hz3⟩
 case round =>
  clear B2 W2 S2 hz3
  obtain ⟨k, hk, rfl, hB, hW, hz⟩ := hrel
  obtain ⟨w3, hw3⟩ : ∃ w3, w3 = wr := ⟨_, rfl⟩
  subst hw3
  by_cases hlt : k < n
  ·have k0 : (0 : Int) ≤ (k : Int) := Int.natCast_nonneg _
   have k1 : (k : Int) < (n : Int) := by omega
   obtain ⟨b, off, hab, hbl, c0, c1, c2, c3⟩ := HC.out k hlt
   subst hab
   have c0 := (hW.out.cell (p := ⟨b, off + k * 4, none⟩) hbl).trans c0
   have c1 := (hW.out.cell (p := ⟨b, off + k * 4 + 1, none⟩) hbl).trans c1
   have c2 := (hW.out.cell (p := ⟨b, off + k * 4 + 2, none⟩) hbl).trans c2
   have c3 := (hW.out.cell (p := ⟨b, off + k * 4 + 3, none⟩) hbl).trans c3
   obtain ⟨g0, g1, g2, t, ht, htn⟩ := HS.out k hlt
   obtain ⟨bk, ok, hak, hbkl, d0⟩ := HKC.out t htn
   subst hak
   have d0 := (hW.out.cell (p := ⟨bk, ok + t, none⟩) hbkl).trans d0
   have g4 := HKB.out t htn
   have HTN := hidP (HNT.out k hlt)
   have HL1 := HBN.out k
   rw [ht] at c3
   have HSA : Hid (sgA K (el l k) = [(el l k).1, (el l k).2.1, (el l k).2.2.1, el K t]) := by show _ = _; unfold sgA; rw [ht, Int.toNat_natCast]
   obtain ⟨pp, hpp⟩ : ∃ pp, el l k = pp := ⟨_, rfl⟩
   rw [hpp] at c0 c1 c2 g0 g1 g2 HTN HSA
   clear hpp ht
   obtain ⟨x0, x1, x2, x3⟩ := pp
   simp only at c0 c1 c2 g0 g1 g2 HSA
   rw [HSA.out] at HTN
   clear HSA
   obtain ⟨y, hy⟩ : ∃ y, el K t = y := ⟨_, rfl⟩
   rw [hy] at d0 g4 HTN
   clear hy
   have t0 : (0 : Int) ≤ (t : Int) := Int.natCast_nonneg _
   have t1 : (t : Int) < (nk : Int) := by omega
   have hA4 := (Below.refl w3.heap.size w3).alloc (Nat.le_refl _) (.cells #[.int .i64 x0, .int .i64 x1, .int .i64 x2, .int .i64 (t : Int)] 48)
   have X4 := hidP (Blk.made w3 #[.int .i64 x0, .int .i64 x1, .int .i64 x2, .int .i64 (t : Int)] 48)
   have B4 := hidP (hB.out.later hA4)
   have W4 := hidP (hW.out.trans (hA4.mono hW.out.size))
   have D4 := hidP ((hA4.cell (p := ⟨bk, ok + t, none⟩) (World.block_lt_of_cell? _ _ d0)).trans d0)
   have hz4 : w.heap.size + 2 ≤ (w3.alloc (.cells #[.int .i64 x0, .int .i64 x1, .int .i64 x2, .int .i64 (t : Int)] 48)).heap.size := by simp; omega
   clear hA4 hB hW
   go_upto_region 7 with fail
   clear c0 c1 c2 c3 d0
   generalize w3.alloc (.cells #[.int .i64 x0, .int .i64 x1, .int .i64 x2, .int .i64 (t : Int)] 48) = w4 at *
   obtain ⟨Ab, hAb⟩ : ∃ Ab, Ab = w3.heap.size := ⟨_, rfl⟩
   rw [← hAb] at X4 ⊢
   clear hAb
   have hDr := (Below.refl w4.heap.size w4).drew
   have HHz : HeldRl Ab x0 x1 x2 (t : Int) bk (ok + t) y w4 := ⟨X4.out.cell 0 rfl, X4.out.cell 1 rfl, X4.out.cell 2 rfl, X4.out.cell 3 rfl, D4.out⟩
   have HH : HeldRl Ab x0 x1 x2 (t : Int) bk (ok + t) y w4.drew := HHz.later hDr
   have hA5 := ((Below.refl w4.heap.size w4).alloc (Nat.le_refl _) (.cells #[.int .i64 x0, .int .i64 x1, .int .i64 x2, .int .i64 y] 3)).drew
   have HC5 := hidP (signW_any w (w4.alloc (.cells #[.int .i64 x0, .int .i64 x1, .int .i64 x2, .int .i64 y] 3)).drew (w.heap.size + 1) (w.heap.size + 1) w4.heap.size (TX k) [x0, x1, x2, y] (show Blk (w4.alloc (.cells #[.int .i64 x0, .int .i64 x1, .int .i64 x2, .int .i64 y] 3)).drew w4.heap.size ([x0, x1, x2, y].map (Value.int .i64)).toArray 3 from Blk.made w4 #[.int .i64 x0, .int .i64 x1, .int .i64 x2, .int .i64 y] 3) (B4.out.later hA5) HTB.out (W4.out.trans (hA5.mono W4.out.size)) (by omega) (fun n hn => by
    simp only [List.mem_cons, List.not_mem_nil, or_false] at hn
    rcases hn with rfl | rfl | rfl | rfl
    ·exact g0
    ·exact g1
    ·exact g2
    ·exact g4) (by simp) (by omega) (Nat.le_trans (by omega) hA5.size) 4 4 rfl)
   have W5 := hidP (W4.out.trans (hA5.mono W4.out.size))
   have HH5 : HeldRl Ab x0 x1 x2 (t : Int) bk (ok + t) y (w4.alloc (.cells #[.int .i64 x0, .int .i64 x1, .int .i64 x2, .int .i64 y] 3)).drew := HHz.later hA5
   have hz5 := hA5.size
   have X5 := hidP (X4.out.below hA5 X4.out.lt)
   have D5 := hidP (((hA5).cell (p := ⟨bk, ok + t, none⟩) (World.block_lt_of_cell? _ _ D4.out)).trans D4.out)
   clear hA5
   clear D5 X4 D4 B4 HHz
   refine region_anyL (HeldRl Ab x0 x1 x2 (t : Int) bk (ok + t) y) 1000 (by kernel_rfl) ?_
   refine anyL_tk (i := 0) (v := ?v0_1) aZ0 (by kernel_rfl) ?y0_1 HH ?r0_1
   case y0_1 => intro wx hx; obtain ⟨h0, h1, h2, h3, h4⟩ := hx; go_simp; try (with_reducible rfl)
   simp only [Act.put, List.setIfInBounds_toArray, List.set_cons_zero, List.set_cons_succ]
   refine anyL_tk (i := 1) (v := ?v1_2) aZ1 (by kernel_rfl) ?y1_2 HH ?r1_2
   case y1_2 => intro wx hx; obtain ⟨h0, h1, h2, h3, h4⟩ := hx; go_simp; try (with_reducible rfl)
   simp only [Act.put, List.setIfInBounds_toArray, List.set_cons_zero, List.set_cons_succ]
   refine anyL_tk (i := 2) (v := ?v2_3) aZ2 (by kernel_rfl) ?y2_3 HH ?r2_3
   case y2_3 => intro wx hx; obtain ⟨h0, h1, h2, h3, h4⟩ := hx; go_simp; try (with_reducible rfl)
   simp only [Act.put, List.setIfInBounds_toArray, List.set_cons_zero, List.set_cons_succ]
   refine anyL_tk (i := 3) (v := ?v3_4) aZ3 (by kernel_rfl) ?y3_4 HH ?r3_4
   case y3_4 => intro wx hx; obtain ⟨h0, h1, h2, h3, h4⟩ := hx; go_simp; try (with_reducible rfl)
   simp only [Act.put, List.setIfInBounds_toArray, List.set_cons_zero, List.set_cons_succ]
   refine anyL_tk (i := 4) (v := ?v4_5) aZ4 (by kernel_rfl) ?y4_5 HH ?r4_5
   case y4_5 => intro wx hx; obtain ⟨h0, h1, h2, h3, h4⟩ := hx; go_simp; try (with_reducible rfl)
   simp only [Act.put, List.setIfInBounds_toArray, List.set_cons_zero, List.set_cons_succ]
   refine anyL_tk (i := 5) (v := ?v5_6) aZ5 (by kernel_rfl) ?y5_6 HH ?r5_6
   case y5_6 => intro wx hx; obtain ⟨h0, h1, h2, h3, h4⟩ := hx; go_simp; try (with_reducible rfl)
   simp only [Act.put, List.setIfInBounds_toArray, List.set_cons_zero, List.set_cons_succ]
   refine anyL_tk (i := 6) (v := ?v6_7) aZ6 (by kernel_rfl) ?y6_7 HH ?r6_7
   case y6_7 => intro wx hx; obtain ⟨h0, h1, h2, h3, h4⟩ := hx; go_simp; try (with_reducible rfl)
   simp only [Act.put, List.setIfInBounds_toArray, List.set_cons_zero, List.set_cons_succ]
   refine anyL_tk (i := 7) (v := ?v7_8) aZ7 (by kernel_rfl) ?y7_8 HH ?r7_8
   case y7_8 => intro wx hx; obtain ⟨h0, h1, h2, h3, h4⟩ := hx; go_simp; try (with_reducible rfl)
   simp only [Act.put, List.setIfInBounds_toArray, List.set_cons_zero, List.set_cons_succ]
   refine anyL_tk (i := 8) (v := ?v8_9) aZ8 (by kernel_rfl) ?y8_9 HH ?r8_9
   case y8_9 => intro wx hx; obtain ⟨h0, h1, h2, h3, h4⟩ := hx; go_simp; try (with_reducible rfl)
   simp only [Act.put, List.setIfInBounds_toArray, List.set_cons_zero, List.set_cons_succ]
   refine anyL_tk (i := 9) (v := ?v9_10) aZ9 (by kernel_rfl) ?y9_10 HH ?r9_10
   case y9_10 => intro wx hx; obtain ⟨h0, h1, h2, h3, h4⟩ := hx; go_simp; try (with_reducible rfl)
   simp only [Act.put, List.setIfInBounds_toArray, List.set_cons_zero, List.set_cons_succ]
   refine anyL_tk (i := 10) (v := ?v10_11) aZ10 (by kernel_rfl) ?y10_11 HH ?r10_11
   case y10_11 => intro wx hx; obtain ⟨h0, h1, h2, h3, h4⟩ := hx; go_simp; try (with_reducible rfl)
   simp only [Act.put, List.setIfInBounds_toArray, List.set_cons_zero, List.set_cons_succ]
   refine anyL_tk (i := 11) (v := ?v11_12) aZ11 (by kernel_rfl) ?y11_12 HH ?r11_12
   case y11_12 => intro wx hx; obtain ⟨h0, h1, h2, h3, h4⟩ := hx; go_simp; try (with_reducible rfl)
   simp only [Act.put, List.setIfInBounds_toArray, List.set_cons_zero, List.set_cons_succ]
   refine anyL_one (i := 12) aZ12 (by kernel_rfl) rfl (fun K hK => ?_)
   go_simp
   refine hK _ _ (.inr HH5) ?_
   try simp only [Act.put, List.setIfInBounds_toArray, List.set_cons_zero, List.set_cons_succ]
   refine anyL_one (i := 13) aZ13 (by kernel_rfl) rfl (fun K hK => ?_)
   go_simp
   with_reducible refine HC5.out.mono ?_
   rintro e w6 ⟨rfl, hB6, hb6, ho6⟩
   have X6 := ho6.blk X5.out (by decide) (by decide)
   have HH6 : HeldRl Ab x0 x1 x2 (t : Int) bk (ok + t) y w6 := ⟨X6.cell 0 rfl, X6.cell 1 rfl, X6.cell 2 rfl, X6.cell 3 rfl, (hb6.cell (p := ⟨bk, ok + t, none⟩) (by show bk < w.heap.size + 1; omega)).trans HH5.h4⟩
   have B6 := hidP hB6
   have W6 := hidP (W5.out.trans (hb6.mono (by omega)))
   have hz6 : w.heap.size + 2 ≤ w6.heap.size := Nat.le_trans hz4 (Nat.le_trans hz5 hb6.size)
   clear hB6 hb6 ho6 HC5 X6 X5
   refine hK _ _ (.inr HH6) (anyL_done (by kernel_rfl) (NoPanic.normal ?_))
   try simp only [Act.put, List.setIfInBounds_toArray, List.set_cons_zero, List.set_cons_succ]
   clear HH HH5 HH6
   go_wp2
   go_roundw
   case rel => exact ⟨k + 1, by omega, by go_num, by rw [HTN.out]; exact B6, W6, hz6⟩
   case measure => simp [intOf]; omega
  ·have hk1 : ¬ (k : Int) < (n : Int) := by omega
   obtain rfl : k = n := by omega
   rw [HNE.out] at hB
   go_wp2_with (first
    | (go_at_call 96; (with_reducible refine (string_any _ _ _ _ hB.out HNZ.out).mono ?_); rintro e w4 ⟨rfl, hb4⟩; have W4 := hidP (hW.out.trans (hb4.mono (by omega))); clear hb4))
   go_ret
   exact ⟨rfl, W4.out⟩
end Go.Proofs.YthajkkobgfighaaGreatDoor.Wt
namespace Go.Proofs.YthajkkobgfighaaGreatDoor.Wt
open Go.ChangeShapes Go.WideShapes Go.ChangeAt Go.RowKit Go.Maps
open Go.Proofs.YthajkkobgfighaaGreatDoor.Pl
set_option linter.unusedVariables false
set_option linter.unusedSimpArgs false
theorem lawTx : Keyed Tryz.prog 9 := string_keyed Tryz.underlying9
theorem wfNat {n : Int} (h0 : 0 ≤ n) (h : n ≤ 100000000000000) : (Lit.int .i64 n).wf = true := by
 simp [Lit.wf, IntKind.min, IntKind.max, IntKind.signed, IntKind.bits]
 omega
def TxM (w : World) (m : Nat) (ks : List (List UInt8)) : Prop :=
  ∃ D : DataW Unit, w.ownsMap Tryz.prog 9 (plainElem Tryz.prog 3) m ks.length D ∧ Maps.size D = ks.length ∧
    ∀ p : List UInt8, (∀ i, i < ks.length → el ks i = p → has D (.string p) = true ∧ D.atKey (.string p) (.lit (.int .i64 0)) = .lit (.int .i64 (i : Int))) ∧ (p ∉ ks → has D (.string p) = false ∧ D.atKey (.string p) (.lit (.int .i64 0)) = .lit (.int .i64 0))
theorem TxM.lt {w : World} {m : Nat} {ks : List (List UInt8)} (h : TxM w m ks) : m < w.heap.size := by obtain ⟨D, h, _⟩ := h; exact h.lt
theorem TxM.made (w : World) : TxM (w.alloc (.map #[] 0)) w.heap.size [] :=
 ⟨_, World.ownsMap_made w _ _ _, rfl, fun p => ⟨fun i hi => absurd hi (by simp), fun _ => ⟨rfl, by simp [DataW.atKey]⟩⟩⟩
theorem TxM.keep {w w' : World} {m : Nat} {ks : List (List UInt8)} (h : TxM w m ks) (e : w'.heap[m]? = w.heap[m]?) : TxM w' m ks := by
 obtain ⟨D, ⟨es, clock, hb, h0⟩, h1⟩ := h
 exact ⟨D, ⟨es, clock, e.trans hb, h0⟩, h1⟩
theorem TxM.neBlk {w : World} {m b : Nat} {ks : List (List UInt8)} (h : TxM w m ks) {cs : Array Value} {t : TypeId} (hb : Blk w b cs t) : m ≠ b := by
 obtain ⟨D, h, _⟩ := h
 exact Ne.symm (map_ne_blk hb h)
theorem zeroTx (w : World) : (zeroValue 3).run Tryz.prog w = .ok (.int .i64 0) w := by kernel_rfl
theorem keyTx {p : List UInt8} (h : p.length ≤ 1000000) : keyOf Tryz.prog 9 (.string ⟨p.toArray⟩) = some (.string p) := by
 have h9 := Go.WideMaps.keyOf_string_mk (P := Tryz.prog) Tryz.underlying9 (s := ⟨p.toArray⟩) (by show p.toArray.size ≤ maxLen; unfold maxLen; simp; omega)
 simpa using h9
set_option maxRecDepth 100000 in
theorem TxM.look {w : World} {m : Nat} {ks : List (List UInt8)} (h : TxM w m ks) {p : List UInt8} (hp : p.length ≤ 1000000) :
  (∃ i, i < ks.length ∧ el ks i = p ∧ (Instr.lookup 89 (.map (some m)) (.string ⟨p.toArray⟩) true).run Tryz.prog w = .ok (.tuple #[.int .i64 (i : Int), .bool true]) w) ∨
  (p ∉ ks ∧ (Instr.lookup 89 (.map (some m)) (.string ⟨p.toArray⟩) true).run Tryz.prog w = .ok (.tuple #[.int .i64 0, .bool false]) w) := by
 obtain ⟨D, h1, _, h3⟩ := h
 have hk := keyTx hp
 obtain ⟨v, ps, hr, hv⟩ := World.ownsMap.look_ok h1 lawTx Tryz.underlying89 (zeroTx w) (plainElem_int Tryz.underlying3 (by decide)) hk
 obtain ⟨c, rfl, hc, _⟩ := plainElem_int_inv Tryz.underlying3 hv
 have hc' := congrArg Prod.fst hc
 simp only at hc'
 obtain ⟨g1, g2⟩ := h3 p
 by_cases he : p ∈ ks
 ·obtain ⟨i, hi, hd⟩ := mem_el he
  obtain ⟨k1, k2⟩ := g1 i hi hd
  left
  refine ⟨i, hi, hd, ?_⟩
  rw [k2] at hc'
  rw [k1] at hr
  injection hc' with e1
  injection e1 with _ e2
  rw [← e2] at hr
  exact hr
 ·right
  rw [(g2 he).1] at hr
  rw [(g2 he).2] at hc'
  injection hc' with e1
  injection e1 with _ e2
  rw [← e2] at hr
  exact ⟨he, hr⟩
set_option maxRecDepth 100000 in
theorem TxM.put {w : World} {m : Nat} {ks : List (List UInt8)} (h : TxM w m ks) {p : List UInt8} (hp : p.length ≤ 1000000) (hno : p ∉ ks) (hn : ks.length < 100000) :
  ∃ w', (Instr.mapUpdate 89 (.map (some m)) (.string ⟨p.toArray⟩) (.int .i64 (ks.length : Int))).run Tryz.prog w = .ok () w' ∧ TxM w' m (ks ++ [p]) ∧ w.grownBy w' (some m) := by
 obtain ⟨D, h1, h2, h3⟩ := h
 have hk := keyTx hp
 obtain ⟨w', hu, ho, hg⟩ := World.ownsMap.update (R := plainElem Tryz.prog 3) h1 lawTx Tryz.underlying89 (by unfold maxLen; omega) hk (plainElem_int Tryz.underlying3 (wfNat (n := (ks.length : Int)) (by omega) (by omega)))
 refine ⟨w', hu, ⟨_, by rw [List.length_append]; exact ho, ?_, fun q => ?_⟩, hg⟩
 ·rw [size_put (h1.tidy lawTx), ((h3 p).2 hno).1, h2]
  simp
 ·by_cases e : q = p
  ·subst e
   refine ⟨fun i hi hd => ⟨has_put_same h1.isMap (lawTx.key hk) _, ?_⟩, fun hq => absurd (List.mem_append_right _ List.mem_cons_self) hq⟩
   rw [atKey_put_same h1.isMap (lawTx.key hk)]
   rw [List.length_append] at hi
   simp at hi
   by_cases ei : i < ks.length
   ·rw [el_left ei] at hd
    exact absurd (hd ▸ el_mem ei) hno
   ·obtain rfl : i = ks.length := by omega
    rfl
  ·have hne : Lit.string q ≠ Lit.string p := fun h => by
    injection h with h
    exact e h
   obtain ⟨g1, g2⟩ := h3 q
   refine ⟨fun i hi hd => ?_, fun hq => ?_⟩
   ·rw [List.length_append] at hi
    simp at hi
    by_cases ei : i < ks.length
    ·rw [el_left ei] at hd
     obtain ⟨k1, k2⟩ := g1 i ei hd
     exact ⟨(has_put_other hne _).trans k1, (atKey_put_other hne _ _).trans k2⟩
    ·obtain rfl : i = ks.length := by omega
     rw [el_last] at hd
     exact absurd hd.symm e
   ·obtain ⟨k1, k2⟩ := g2 fun hd => hq (List.mem_append_left _ hd)
    exact ⟨(has_put_other hne _).trans k1, (atKey_put_other hne _ _).trans k2⟩
theorem TxM.look_old {w : World} {m : Nat} {ks : List (List UInt8)} (h : TxM w m ks) {p : List UInt8} (hp : p.length ≤ 1000000) (hN : ks.Nodup) {i : Nat} (hi : i < ks.length) (he : el ks i = p) : (Instr.lookup 89 (.map (some m)) (.string ⟨p.toArray⟩) true).run Tryz.prog w = .ok (.tuple #[.int .i64 (i : Int), .bool true]) w := by
 rcases h.look hp with ⟨j, hj, hej, hr⟩ | ⟨hno, _⟩
 ·have h1 := idxG_el hN hi
  have h2 := idxG_el hN hj
  rw [he] at h1
  rw [hej, h1] at h2
  subst h2
  exact hr
 ·exact absurd (he ▸ el_mem hi) hno
theorem TxM.look_new {w : World} {m : Nat} {ks : List (List UInt8)} (h : TxM w m ks) {p : List UInt8} (hp : p.length ≤ 1000000) (hno : p ∉ ks) : (Instr.lookup 89 (.map (some m)) (.string ⟨p.toArray⟩) true).run Tryz.prog w = .ok (.tuple #[.int .i64 0, .bool false]) w := by
 rcases h.look hp with ⟨j, hj, hej, hr⟩ | ⟨_, hr⟩
 ·exact absurd (hej ▸ el_mem hj) hno
 ·exact hr
end Go.Proofs.YthajkkobgfighaaGreatDoor.Wt
