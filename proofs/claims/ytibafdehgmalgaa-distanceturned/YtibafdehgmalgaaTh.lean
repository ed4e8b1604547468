/- turn.reversed: a machine from its ends on. -/
import Derived.Test.YtibafdehgmalgaaTg
import Derived.Test.YtibafdehgmalgaaMr
import Derived.Test.YtibafdehgmalgaaJ13b
import Derived.Test.YtibafdehgmalgaaPlainRv
import Derived.Deep.DeepCutAuto
namespace Go.Proofs.Ytibafdehgmalgaa.Wt
open Go.ChangeShapes Go.WideShapes Go.ChangeAt Go.RowKit
open Go.Proofs.Ytibafdehgmalgaa.Pl
set_option linter.unusedVariables false
set_option linter.unusedSimpArgs false
/-- What stands in memory while the machine from behind is made. -/
def RvM (w : World) (v : Value) (z : Int) (a : Option Addr) (n cap : Nat) (wr : World) (L : List St) : Prop :=
  OwnApt wr (w.heap.size + 2) v L ∧ Blk wr (w.heap.size + 3) #[v] 22 ∧ Blk wr w.heap.size #[.int .i64 z, .slice a n cap] 24 ∧ Blk wr (w.heap.size + 1) #[.int .i64 0, .slice none 0 0] 24 ∧ Below w.heap.size w wr ∧ w.heap.size + 4 ≤ wr.heap.size
theorem RvM.later {w : World} {v : Value} {z : Int} {a : Option Addr} {n cap : Nat} {wr W : World} {L : List St} (h : RvM w v z a n cap wr L) (hb : Below wr.heap.size wr W) : RvM w v z a n cap W L := by
  obtain ⟨h1, h2, h3, h4, h5, h6⟩ := h
  exact ⟨h1.later hb, h2.below hb h2.lt, h3.below hb h3.lt, h4.below hb h4.lt, h5.trans (hb.mono h5.size), Nat.le_trans h6 hb.size⟩
theorem RvM.lead {w : World} {v : Value} {z : Int} {a : Option Addr} {n cap : Nat} {wr : World} {L : List St} (h : RvM w v z a n cap wr L) (q : Nat) (hq : q < L.length) (c : Ar) (hl : (el L q).2.length ≤ 100000) (hll : L.length ≤ 100000) (W : World) (hb : Below wr.heap.size wr W) :
    Calls Try.prog 49 #[.int .i64 q, .agg #[.int .i64 c.1, .int .i64 c.2.1, .int .i64 c.2.2.1, .int .i64 c.2.2.2], .pointer (some ⟨w.heap.size + 3, 0, none⟩)] W fun e W' => e = .returned (.tuple #[]) ∧ RvM w v z a n cap W' (putL L q c) ∧ W.heap.size ≤ W'.heap.size ∧ ∀ k, wr.heap.size ≤ k → k < W.heap.size → W'.heap[k]? = W.heap[k]? := by
  have hW := h.later hb
  obtain ⟨h1, h2, h3, h4, h5, h6⟩ := h
  obtain ⟨g1, g2, g3, g4, g5, g6⟩ := hW
  refine (lead_any (w.heap.size + 3) (w.heap.size + 2) q c v L wr W g2 h1 hb (by omega) hq hl hll).mono ?_
  rintro e W' ⟨rfl, ho, hbb, hk, hu⟩
  refine ⟨rfl, ⟨ho, hk.blk g2 (by simp) (by decide) (by decide), g3.below hbb (by omega), g4.below hbb (by omega), g5.trans (hbb.mono (by omega)), Nat.le_trans g6 hbb.size⟩, hbb.size, hu⟩
/-- States in a block as long as they are. -/
theorem sts_own {w : World} {g B : Nat} {vs : List (Int × Value)} (h : Blk w g (vs.flatMap encS).toArray 44) (hB : B ≤ g) (hl : vs.length ≤ 1000) : w.ownsRow B 44 2 (.slice (some ⟨g, 0, none⟩) vs.length vs.length) vs.length (vs.flatMap encS) :=
  ⟨flat_length encS_len vs, .inr ⟨g, vs.length, _, rfl, hB, h, Nat.le_refl _, by unfold maxLen; omega, by simp [flat_length encS_len], by rw [List.take_of_length_le]; rw [Array.length_toList, List.size_toArray, flat_length encS_len]; exact Nat.le_refl _⟩⟩
theorem apt_start {w : World} {g B N : Nat} {vs : List (Int × Value)} (h : Blk w g (vs.flatMap encS).toArray 44) (hB : B ≤ g) (hN : vs.length = N) (hl : N ≤ 1000) (hv : ∀ j, j < N → el vs j = (1000000001, .slice none 0 0)) : OwnApt w B (.slice (some ⟨g, 0, none⟩) N N) (List.replicate N (1000000001, [])) := by
  subst hN
  refine ⟨vs, sts_own h hB hl, by simp, fun j hj => ?_, fun i j hi hj hij => ?_⟩
  · have hj' : j < vs.length := by simpa using hj
    rw [hv j hj', el_get hj, List.getElem_replicate]
    exact ⟨rfl, World.ownsRow_nil _ _ _ _⟩
  · rw [hv i (by simpa using hi)]
    exact .inl rfl
set_option maxRecDepth 100000 in
set_option maxHeartbeats 6400000 in
theorem revdP_any (z : Int) (l : List St) (a : Option Addr) (cap : Nat) (w : World) (h : Mach w (.agg #[.int .i64 z, .slice a l.length cap]) (z, l)) (hr : faultM (z, l) = 0) :
    Calls Try.prog 36 #[.agg #[.int .i64 z, .slice a l.length cap]] w fun e w' => ∃ v', e = .returned (.agg #[.int .i64 0, v']) ∧ OwnApt w' (w.heap.size + 2) v' (revM (z, l)).2 ∧ Below w.heap.size w w' := by
  obtain ⟨vs', hvs, hS⟩ := h
  simp only [Value.agg.injEq, Array.mk.injEq, List.cons.injEq, and_true, true_and] at hvs
  subst hvs
  obtain ⟨a', cap', hsl, hc⟩ := hS.get
  simp only [Value.slice.injEq, true_and] at hsl
  obtain ⟨rfl, rfl⟩ := hsl
  have h60 : l.length ≤ 60 := (right_size hr).1
  have h400 : arcN l ≤ 400 := (right_size hr).2
  have H400 := hidP h400
  obtain ⟨⟨hz1, hz2⟩, _⟩ := right_parts hr
  simp only at hz1 hz2
  have HST : Hid (∀ j, j < l.length → (el l j).2.length ≤ 400) := fun j hj => (right_states hr j hj).2.1
  have HTO : Hid (∀ j, j < l.length → ∀ p ∈ (el l j).2, ∃ t0 : Nat, t0 < l.length ∧ p.2.2.2 = (t0 : Int)) := fun j hj p hp => by
    have h3 := (right_parts hr).2 (el l j) (el_mem hj)
    simp only [stB, Bool.and_eq_true, List.all_eq_true] at h3
    have h4 := h3.2 p hp
    simp only [arcB, inB, Bool.and_eq_true, decide_eq_true_eq] at h4
    exact ⟨p.2.2.2.toNat, by omega, by omega⟩
  have HC : Hid (∀ j, j < l.length → ∃ b off va, a = some ⟨b, off, none⟩ ∧ b < w.heap.size ∧ w.cell? ⟨b, off + j * 2, none⟩ = some (.int .i64 (el l j).1) ∧ w.cell? ⟨b, off + j * 2 + 1, none⟩ = some va ∧ Arcs w va (el l j).2) := hc
  have HRS := hidP (rv_start l)
  have HRN : Hid (z = -1 → ∀ L, RvK l l.length L → L = (revM (z, l)).2) := fun e L hL => by subst e; exact rv_none hL
  have HRZ : Hid (∀ (L : List St) (zn : Nat), z = (zn : Int) → zn < l.length → RvK l l.length L → L.set (zn + 1) (0, (el L (zn + 1)).2) = (revM (z, l)).2) := fun L zn e hzn hL => by subst e; exact rv_some hL hzn
  have HLL : Hid (∀ k L, RvK l k L → L.length = l.length + 1) := fun k L hL => hL.1
  clear hS hc hr h400
  generalize (revM (z, l)).2 = RR at *
  generalize hn : l.length = n at *
  have HN := hidP hn
  clear hn
  have hmk : ∀ W : World, (Instr.makeSlice 22 (.int .i64 (1 + (n : Int))) (.int .i64 (1 + (n : Int)))).run Try.prog W = .ok (.slice (some ⟨W.heap.size, 0, none⟩) (n + 1) (n + 1)) (W.alloc (.cells ((List.replicate (n + 1) ((0 : Int), Value.slice none 0 0)).flatMap encS).toArray 44)) := fun W => by
    have h9 := run_states (n + 1) (by omega) W
    rw [show ((n + 1 : Nat) : Int) = 1 + (n : Int) by omega] at h9
    exact h9
  have hw1 : IntKind.i64.wrap (1 + (n : Int)) = 1 + (n : Int) := wrapI (by omega) (by omega)
  go_enter Try.func36, Try.ntmps36
  go_wp2
  clear hmk hw1
  go_loopw [19] (fun i wr => ∃ (k : Nat) (vs : List (Int × Value)), k ≤ n + 1 ∧ i = .int .i64 k ∧ Hid (vs.length = n + 1) ∧ Hid (∀ j, j < n + 1 → el vs j = (if j < k then 1000000001 else 0, .slice none 0 0)) ∧ Hid (Blk wr (w.heap.size + 2) (vs.flatMap encS).toArray 44) ∧ Hid (Blk wr (w.heap.size + 3) #[.slice (some ⟨w.heap.size + 2, 0, none⟩) (n + 1) (n + 1)] 22) ∧ Hid (Blk wr w.heap.size #[.int .i64 z, .slice a n cap] 24) ∧ Hid (Blk wr (w.heap.size + 1) #[.int .i64 0, .slice none 0 0] 24) ∧ Hid (Below w.heap.size w wr)) (fun i _ => n + 1 - (intOf i).toNat)
  case atStart =>
    have b0 := (((Blk.made w #[.int .i64 z, .slice a n cap] 24).alloc (.cells #[.int .i64 0, .slice none 0 0] 24)).alloc (.cells ((List.replicate (n + 1) ((0 : Int), Value.slice none 0 0)).flatMap encS).toArray 44)).alloc (.cells #[.slice (some ⟨w.heap.size + 2, 0, none⟩) (n + 1) (n + 1)] 22)
    have b1 := ((Blk.made (w.alloc (.cells #[.int .i64 z, .slice a n cap] 24)) #[.int .i64 0, .slice none 0 0] 24).alloc (.cells ((List.replicate (n + 1) ((0 : Int), Value.slice none 0 0)).flatMap encS).toArray 44)).alloc (.cells #[.slice (some ⟨w.heap.size + 2, 0, none⟩) (n + 1) (n + 1)] 22)
    have b2 := (Blk.made ((w.alloc (.cells #[.int .i64 z, .slice a n cap] 24)).alloc (.cells #[.int .i64 0, .slice none 0 0] 24)) ((List.replicate (n + 1) ((0 : Int), Value.slice none 0 0)).flatMap encS).toArray 44).alloc (.cells #[.slice (some ⟨w.heap.size + 2, 0, none⟩) (n + 1) (n + 1)] 22)
    have b3 := Blk.made (((w.alloc (.cells #[.int .i64 z, .slice a n cap] 24)).alloc (.cells #[.int .i64 0, .slice none 0 0] 24)).alloc (.cells ((List.replicate (n + 1) ((0 : Int), Value.slice none 0 0)).flatMap encS).toArray 44)) #[.slice (some ⟨w.heap.size + 2, 0, none⟩) (n + 1) (n + 1)] 22
    simp only [World.size_alloc] at b1 b2 b3
    exact ⟨0, List.replicate (n + 1) ((0 : Int), Value.slice none 0 0), Nat.zero_le _, rfl, (by show _ = _; simp), fun j hj => (by rw [el_get (by simpa using hj), List.getElem_replicate]; rfl), b2, b3, b0, b1, ((((Below.refl _ _).alloc (Nat.le_refl _) _).alloc (by simp) _).alloc (by simp; omega) _).alloc (by simp; omega) _⟩
  case round =>
    obtain ⟨k, vs, hk, rfl, hvl, hel, hbs, hb3, hb0, hb1, hb⟩ := hrel
    obtain ⟨w2, hw2⟩ : ∃ w2, w2 = wr := ⟨_, rfl⟩
    subst hw2
    by_cases hlt : k < n + 1
    · have hk0 : (0 : Int) ≤ (k : Int) := by omega
      have hk1 : (k : Int) < (n : Int) + 1 := by omega
      have c3 := hb3.out.cell 0 (v := .slice (some ⟨w.heap.size + 2, 0, none⟩) (n + 1) (n + 1)) rfl
      have e0 := hbs.out.cell (k * 2) (v := .int .i64 (el vs k).1) (by have := flat_at encS_len vs k (by rw [hvl.out]; exact hlt) 0 (by omega); rw [Nat.add_zero] at this; rw [List.getElem?_toArray, this]; rfl)
      have f0 := hbs.out.fz (k * 2)
      have H3 := hidP (hb3.out.setO ⟨w.heap.size + 2, k * 2, none⟩ (.int .i64 1000000001) (by show w.heap.size + 3 ≠ w.heap.size + 2; omega))
      have H0 := hidP (hb0.out.setO ⟨w.heap.size + 2, k * 2, none⟩ (.int .i64 1000000001) (by show w.heap.size ≠ w.heap.size + 2; omega))
      have H1 := hidP (hb1.out.setO ⟨w.heap.size + 2, k * 2, none⟩ (.int .i64 1000000001) (by show w.heap.size + 1 ≠ w.heap.size + 2; omega))
      have H2 := hidP (hbs.out.set (k * 2) (.int .i64 1000000001))
      have HBB := hidP (hb.out.setCell (p := ⟨w.heap.size + 2, k * 2, none⟩) (by show w.heap.size ≤ w.heap.size + 2; omega) (.int .i64 1000000001))
      go_wp2
      go_roundw
      case rel =>
        refine ⟨k + 1, vs.set k (1000000001, (el vs k).2), by omega, by go_num, (by show _ = _; rw [List.length_set]; exact hvl.out), ?_, ?_, H3, H0, H1, HBB⟩
        · intro j hj
          rw [el_setS (by rw [hvl.out]; exact hlt)]
          by_cases e : j = k
          · rw [if_pos e, if_pos (by omega), hel.out k hlt]
          · rw [if_neg e, hel.out j hj]
            by_cases g : j < k
            · rw [if_pos g, if_pos (by omega)]
            · rw [if_neg g, if_neg (by omega)]
        · have h9 := H2.out
          rw [List.setIfInBounds_toArray, flat_set0 (by rw [hvl.out]; exact hlt)] at h9
          exact h9
      case measure => simp [intOf]; omega
    · have hnl : ¬ (k : Int) < (n : Int) + 1 := by omega
      have hkn : k = n + 1 := by omega
      have HV : Hid (RvM w (.slice (some ⟨w.heap.size + 2, 0, none⟩) (n + 1) (n + 1)) z a n cap w2 (List.replicate (n + 1) (1000000001, []))) := ⟨apt_start hbs.out (Nat.le_refl _) hvl.out (by omega) (fun j hj => by rw [hel.out j hj, if_pos (by omega)]), hb3.out, hb0.out, hb1.out, hb.out, by have := hb3.out.lt; omega⟩
      have c1 := hb0.out.cell 1 (v := .slice a n cap) rfl
      clear hbs hvl hel hb3 hb0 hb1 hb hkn
      go_wp2
      clear c1
      go_loopw [31] (fun i wr => ∃ (k : Nat) (L : List St), k ≤ n ∧ i = .int .i64 k ∧ Hid (RvK l k L) ∧ Hid (RvM w (.slice (some ⟨w.heap.size + 2, 0, none⟩) (n + 1) (n + 1)) z a n cap wr L)) (fun i _ => n - (intOf i).toNat)
      case atStart => exact ⟨0, _, Nat.zero_le _, rfl, HRS, HV⟩
      case round =>
        clear HV HRS
        obtain ⟨k, L, hk, rfl, hK, hM⟩ := hrel
        obtain ⟨w3, hw3⟩ : ∃ w3, w3 = wr := ⟨_, rfl⟩
        subst hw3
        by_cases hlt : k < n
        · obtain ⟨b, off, va, rfl, hbl, g0, g1, gA⟩ := HC.out k hlt
          have hb := hM.out.2.2.2.2.1
          have g0 := (hb.cell (p := ⟨b, off + k * 2, none⟩) hbl).trans g0
          have g1 := (hb.cell (p := ⟨b, off + k * 2 + 1, none⟩) hbl).trans g1
          obtain ⟨a2, cap2, rfl, hc2⟩ := gA.get
          have HC2 := hidP hc2
          have hl4 : (el l k).2.length ≤ 400 := HST.out k hlt
          have HT2 := hidP (HTO.out k hlt)
          have hk0' : (0 : Int) ≤ (k : Int) := Int.natCast_nonneg _
          have hk1' : (k : Int) < (n : Int) := by omega
          have hwk : IntKind.i64.wrap (1 + (k : Int)) = 1 + (k : Int) := wrapI (by omega) (by omega)
          have HLL1 : Hid (L.length = n + 1) := HLL.out k L hK.out
          have HJ0 : Hid ((el l k).1 = 1000000001 → RvJ l k 0 L) := fun e => rv_inf hK.out e
          have HJ1 : Hid ((el l k).1 ≠ 1000000001 → RvJ l k 0 (putL L 0 (0, 0, (el l k).1, 1 + (k : Int)))) := fun e => by rw [Int.add_comm]; exact rv_fin hK.out e
          have hl0 : (el L 0).2.length ≤ 100000 := by
            have h9 := rv_lenK hK.out (by rw [HN.out]; exact hk)
            omega
          have HLD : Hid (∀ (f : Int) (W : World), Below w3.heap.size w3 W → Calls Try.prog 49 #[.int .i64 0, .agg #[.int .i64 0, .int .i64 0, .int .i64 f, .int .i64 (1 + (k : Int))], .pointer (some ⟨w.heap.size + 1 + 1 + 1, 0, none⟩)] W fun e W' => e = .returned (.tuple #[]) ∧ RvM w (.slice (some ⟨w.heap.size + 2, 0, none⟩) (n + 1) (n + 1)) z (some ⟨b, off, none⟩) n cap W' (putL L 0 (0, 0, f, 1 + (k : Int))) ∧ W.heap.size ≤ W'.heap.size ∧ ∀ k, w3.heap.size ≤ k → k < W.heap.size → W'.heap[k]? = W.heap[k]?) := fun f W hW => hM.out.lead 0 (by rw [HLL1.out]; omega) (0, 0, f, 1 + (k : Int)) hl0 (by rw [HLL1.out]; omega) W hW
          have HJL : Hid (∀ j L, RvJ l k j L → L.length = n + 1 ∧ ∀ q, q < L.length → (el L q).2.length ≤ 100000) := fun j L hL => ⟨by rw [← HN.out]; exact hL.1, fun q hq => by
            have h9 := rv_lenJ hL (by rw [HN.out]; exact hlt) hq
            have := H400.out
            omega⟩
          have HJA : Hid (∀ j L t0, RvJ l k j L → j < (el l k).2.length → t0 < n → (el (el l k).2 j).2.2.2 = (t0 : Int) → RvJ l k (j + 1) (putL L (t0 + 1) ((el (el l k).2 j).1, (el (el l k).2 j).2.1, (el (el l k).2 j).2.2.1, 1 + (k : Int)))) := fun j L t0 hL hj ht he => by rw [Int.add_comm 1]; exact rv_arc hL hj (by rw [HN.out]; exact ht) he
          have HJN : Hid (∀ L, RvJ l k (el l k).2.length L → RvK l (k + 1) L) := fun L hL => rv_next hL
          clear gA hc2 hl0
          obtain ⟨ar, har⟩ : ∃ ar, (el l k).2 = ar := ⟨_, rfl⟩
          obtain ⟨fi, hfi⟩ : ∃ fi, (el l k).1 = fi := ⟨_, rfl⟩
          rw [har] at g1 HC2 hl4 HT2 HJA HJN
          rw [hfi] at g0 HJ0 HJ1
          clear har hfi
          generalize hn1 : ar.length = n1 at *
          have HN1 := hidP hn1
          clear hn1
          go_upto_if 40 with fail
          go_cut [] (fun wx => ∃ L', Hid (RvJ l k 0 L') ∧ Hid (RvM w (.slice (some ⟨w.heap.size + 2, 0, none⟩) (n + 1) (n + 1)) z (some ⟨b, off, none⟩) n cap wx L') ∧ Hid (Blk wx w3.heap.size #[.int .i64 fi, .slice a2 n1 cap2] 44))
          case first =>
            have hBk := hidP (Blk.made w3 #[.int .i64 fi, .slice a2 n1 cap2] 44)
            have hBe : Hid (Below w3.heap.size w3 (w3.alloc (.cells #[.int .i64 fi, .slice a2 n1 cap2] 44))) := (Below.refl _ _).alloc (Nat.le_refl _) _
            by_cases hf : fi = 1000000001
            · have HJ := hidP (HJ0.out hf)
              have hf' : (fi != 1000000001) = false := by simp [hf]
              clear hf
              go_wp2
              go_meet
              case rel => exact ⟨L, HJ, hM.out.later hBe.out, hBk⟩
            · have HJ := hidP (HJ1.out hf)
              have hf' : (fi != 1000000001) = true := by simpa using hf
              clear hf
              go_wp2_with (first | (go_at_call 49; (with_reducible refine (HLD.out fi _ hBe.out).mono ?_); rintro e w4 ⟨rfl, hm4, hs4, hu4⟩; have HM4 := hidP hm4; have HU4 := hidP (hu4 w3.heap.size (Nat.le_refl _) (by simp)); clear hm4 hs4 hu4))
              go_meet
              case rel => exact ⟨_, HJ, HM4, hBk.out.keep HU4.out⟩
          case rest =>
            obtain ⟨L1, hJ1, hM1, hBk⟩ := hcut
            have t1 := hBk.out.cell 1 (v := .slice a2 n1 cap2) rfl
            clear hM HLD HJ0 HJ1 hK g0 g1 hb hBk
            go_wp2
            clear t1
            go_loopw [50] (fun i wr => ∃ (j : Nat) (L : List St), j ≤ n1 ∧ i = .int .i64 j ∧ Hid (RvJ l k j L) ∧ Hid (RvM w (.slice (some ⟨w.heap.size + 2, 0, none⟩) (n + 1) (n + 1)) z (some ⟨b, off, none⟩) n cap wr L)) (fun i _ => n1 - (intOf i).toNat)
            case atStart => exact ⟨0, L1, Nat.zero_le _, rfl, hJ1, hM1⟩
            case round =>
              clear hJ1 hM1 HLL1
              obtain ⟨j, L2, hj, rfl, hJ2, hM2⟩ := hrel
              obtain ⟨w5, hw5⟩ : ∃ w5, w5 = wr := ⟨_, rfl⟩
              subst hw5
              by_cases hjl : j < n1
              · obtain ⟨b2, off2, rfl, hb2l, q0, q1, q2, q3⟩ := HC2.out j hjl
                have hb5 := hM2.out.2.2.2.2.1
                have q0 := (hb5.cell (p := ⟨b2, off2 + j * 4, none⟩) hb2l).trans q0
                have q1 := (hb5.cell (p := ⟨b2, off2 + j * 4 + 1, none⟩) hb2l).trans q1
                have q2 := (hb5.cell (p := ⟨b2, off2 + j * 4 + 2, none⟩) hb2l).trans q2
                have q3 := (hb5.cell (p := ⟨b2, off2 + j * 4 + 3, none⟩) hb2l).trans q3
                obtain ⟨t0, ht0, hte⟩ := HT2.out (el ar j) (el_mem (by rw [HN1.out]; exact hjl))
                have HJ3 := hidP (HJA.out j L2 t0 hJ2.out hjl ht0 hte)
                obtain ⟨hL2, hLq⟩ := HJL.out j L2 hJ2.out
                have HLA : Hid (∀ (c0 c1 c2 : Int) (W : World), Below w5.heap.size w5 W → Calls Try.prog 49 #[.int .i64 (1 + (t0 : Int)), .agg #[.int .i64 c0, .int .i64 c1, .int .i64 c2, .int .i64 (1 + (k : Int))], .pointer (some ⟨w.heap.size + 1 + 1 + 1, 0, none⟩)] W fun e W' => e = .returned (.tuple #[]) ∧ RvM w (.slice (some ⟨w.heap.size + 2, 0, none⟩) (n + 1) (n + 1)) z (some ⟨b, off, none⟩) n cap W' (putL L2 (t0 + 1) (c0, c1, c2, 1 + (k : Int)))) := fun c0 c1 c2 W hW => by
                  have h9 := hM2.out.lead (t0 + 1) (by omega) (c0, c1, c2, 1 + (k : Int)) (hLq _ (by omega)) (by omega) W hW
                  rw [show ((t0 + 1 : Nat) : Int) = 1 + (t0 : Int) by omega] at h9
                  exact h9.mono (fun e W' ⟨g1, g2, _⟩ => ⟨g1, g2⟩)
                rw [hte] at q3
                clear hb5 hte hL2 hLq hM2 hJ2
                generalize el ar j = p at *
                obtain ⟨p0, p1, p2, p3⟩ := p
                simp only at q0 q1 q2 q3 HJ3
                have hj0 : (0 : Int) ≤ (j : Int) := Int.natCast_nonneg _
                have hj1 : (j : Int) < (n1 : Int) := by omega
                have hwt : IntKind.i64.wrap (1 + (t0 : Int)) = 1 + (t0 : Int) := wrapI (by omega) (by omega)
                go_wp2_with (first | (go_at_call 49; (with_reducible refine (HLA.out _ _ _ _ (by go_grown)).mono ?_); rintro e w6 ⟨rfl, hm6⟩; have HM6 := hidP hm6; clear hm6))
                go_roundw
                case rel => exact ⟨j + 1, _, by omega, by go_num, HJ3, HM6⟩
                case measure => simp [intOf]; omega
              · have hnj : ¬ (j : Int) < (n1 : Int) := by omega
                obtain rfl : j = n1 := by omega
                have HKN := hidP (HJN.out L2 hJ2.out)
                clear hJ2
                go_wp2
                go_roundw
                case rel => exact ⟨k + 1, L2, by omega, by go_num, HKN, hM2⟩
                case measure => simp [intOf]; omega
        · have hnl2 : ¬ (k : Int) < (n : Int) := by omega
          obtain rfl : n = k := by omega
          have d0 := hM.out.2.2.1.cell 0 (v := .int .i64 z) rfl
          have d1 := hM.out.2.1.cell 0 (v := (.slice (some ⟨w.heap.size + 2, 0, none⟩) (n + 1) (n + 1))) rfl
          have d2 := hM.out.2.2.2.1.cell 0 (v := .int .i64 0) rfl
          have d3 := hM.out.2.2.2.1.cell 1 (v := .slice none 0 0) rfl
          have d4 := hM.out.2.2.2.1.fz 0
          have d5 := hM.out.2.2.2.1.fz 1
          by_cases hz : z = -1
          · have HE : Hid (L = RR) := HRN.out hz L hK.out
            have hz' : (z != -1) = false := by simp [hz]
            clear hz
            have HO := hidP ((hM.out.1.setCell (a := ⟨w.heap.size + 1, 0, none⟩) (by show w.heap.size + 1 < w.heap.size + 2; omega) (.int .i64 0)).setCell (a := ⟨w.heap.size + 1, 1, none⟩) (by show w.heap.size + 1 < w.heap.size + 2; omega) (.slice (some ⟨w.heap.size + 2, 0, none⟩) (n + 1) (n + 1)))
            have HB := hidP ((hM.out.2.2.2.2.1.setCell (p := ⟨w.heap.size + 1, 0, none⟩) (by show w.heap.size ≤ w.heap.size + 1; omega) (.int .i64 0)).setCell (p := ⟨w.heap.size + 1, 1, none⟩) (by show w.heap.size ≤ w.heap.size + 1; omega) (.slice (some ⟨w.heap.size + 2, 0, none⟩) (n + 1) (n + 1)))
            rw [HE.out] at HO
            clear hM hK
            go_wp2
            exact bodyPost_ret (v := .agg #[.int .i64 0, (.slice (some ⟨w.heap.size + 2, 0, none⟩) (n + 1) (n + 1))]) (by simp [results, Try.results36, go_sem, *]) rfl ⟨_, rfl, HO.out, HB.out⟩
          · obtain ⟨zn, rfl⟩ : ∃ zn : Nat, z = (zn : Int) := ⟨z.toNat, by omega⟩
            have hzn : zn < n := by omega
            have HE : Hid (L.set (zn + 1) (0, (el L (zn + 1)).2) = RR) := HRZ.out L zn rfl hzn hK.out
            have hz' : ((zn : Int) != -1) = true := by simp
            have hLl : L.length = n + 1 := HLL.out n L hK.out
            obtain ⟨g, cp, hv, hg1, hg2, hc0, hf0, ho0, hk0⟩ := hM.out.1.finAt (zn + 1) (by omega) 0
            simp only [Value.slice.injEq, Option.some.injEq, Addr.mk.injEq, and_true] at hv
            obtain ⟨rfl, hx1, hx2⟩ := hv
            clear hx1 hx2
            rw [HE.out] at ho0
            have HO := hidP ((ho0.setCell (a := ⟨w.heap.size + 1, 0, none⟩) (by show w.heap.size + 1 < w.heap.size + 2; omega) (.int .i64 0)).setCell (a := ⟨w.heap.size + 1, 1, none⟩) (by show w.heap.size + 1 < w.heap.size + 2; omega) (.slice (some ⟨w.heap.size + 2, 0, none⟩) (n + 1) (n + 1)))
            have HB := hidP (((hM.out.2.2.2.2.1.setCell (p := ⟨w.heap.size + 2, (zn + 1) * 2, none⟩) (by show w.heap.size ≤ w.heap.size + 2; omega) (.int .i64 0)).setCell (p := ⟨w.heap.size + 1, 0, none⟩) (by show w.heap.size ≤ w.heap.size + 1; omega) (.int .i64 0)).setCell (p := ⟨w.heap.size + 1, 1, none⟩) (by show w.heap.size ≤ w.heap.size + 1; omega) (.slice (some ⟨w.heap.size + 2, 0, none⟩) (n + 1) (n + 1)))
            have hwz : IntKind.i64.wrap (1 + (zn : Int)) = 1 + (zn : Int) := wrapI (by omega) (by omega)
            have hz3 : (0 : Int) ≤ 1 + (zn : Int) := by omega
            have hz4 : 1 + (zn : Int) < (n : Int) + 1 := by omega
            have hz5 : (1 + (zn : Int)).toNat = zn + 1 := by omega
            generalize (el L (zn + 1)).1 = oldf at *
            clear hM hK ho0 hk0 HE hz hLl
            go_wp2
            exact bodyPost_ret (v := .agg #[.int .i64 0, (.slice (some ⟨w.heap.size + 2, 0, none⟩) (n + 1) (n + 1))]) (by simp [results, Try.results36, go_sem, *]) rfl ⟨_, rfl, HO.out, HB.out⟩
end Go.Proofs.Ytibafdehgmalgaa.Wt
