/- The reference: a machine made certain, where it is right, full and has a Start. -/
import Derived.Test.YtfekmlblldhieaaDoorJ17K
import Derived.Test.YtfekmlblldhieaaDoorJ17L
import Derived.Test.YtfekmlblldhieaaDoorJ17b
import Derived.Test.YtfekmlblldhieaaDoorJ17f
import Derived.Test.YtfekmlblldhieaaDoorMcZ
import Derived.Test.YtfekmlblldhieaaDoorMcL
import Derived.Test.YtfekmlblldhieaaDoorWx
import Derived.Deep.DeepCutAuto
import Derived.BigQuiet
namespace Go.Proofs.YtfekmlblldhieaaDoor.Wt
open Go.ChangeShapes Go.WideShapes Go.ChangeAt Go.RowKit
open Go.Proofs.YtfekmlblldhieaaDoor.Pl
set_option linter.unusedVariables false
set_option linter.unusedSimpArgs false
theorem slThreeY {v : Value} {n : Nat} (h : ∃ a c, v = .slice a n c) : ∃ a k c, v = .slice a k c := by obtain ⟨a, c, e⟩ := h; exact ⟨a, n, c, e⟩
theorem fF_emp (l : List St) : fF l l.length = !empB l := by
  unfold fF empB
  rw [List.take_length, Bool.eq_iff_iff]
  simp only [List.all_eq_true, Bool.not_eq_true', List.any_eq_false, Bool.not_eq_true, fullA]
theorem res_cer (tm : Array Value) (W : World) (R : Nat) (ec : Int) (x0 x1 : Value) (hB : Blk W R #[x0, x1] 24) (h2 : tm.getD 2 undef = .pointer (some ⟨R, 0, none⟩)) (h3 : tm.getD 3 undef = .int .i64 ec) : (results Tryd.f8 tm).run Tryd.prog W = .ok (.tuple #[.agg #[x0, x1], .int .i64 ec]) W := by
  have c0 := hB.cell 0 (v := x0) rfl
  have c1 := hB.cell 1 (v := x1) rfl
  simp only [Array.getD_eq_getD_getElem?] at h2 h3
  simp [results, Tryd.results8, go_sem, h2, h3, c0, c1]
/-- The finals ahead of p. -/
def fnsU (l : List St) (S : List Int) (p : Nat) : List Int := (List.range p).flatMap fun q => if el S q = noneI ∨ (el l q).1 = 1000000001 then [] else [el S q + (el l q).1]
theorem fnsU_succ (l : List St) (S : List Int) (p : Nat) : fnsU l S (p + 1) = fnsU l S p ++ (if el S p = noneI ∨ (el l p).1 = 1000000001 then [] else [el S p + (el l p).1]) := by
  unfold fnsU
  rw [List.range_succ, List.flatMap_append]
  simp
/-- The boxes, the first set. -/
structure FstW (w : World) (cm : Array Value) (F : Nat) (wr : World) (cs : List Int) : Prop where
  m : Blk wr w.heap.size cm 24
  r : Blk wr (w.heap.size + 1) #[.int .i64 0, .slice none 0 0] 24
  t : Blk wr F (cs.map (Value.int .i64)).toArray 3
  bel : Below w.heap.size w wr
  ge : w.heap.size + 2 ≤ F
theorem FstW.set {w wr : World} {cm : Array Value} {F : Nat} {cs : List Int} (h : FstW w cm F wr cs) (k : Nat) (v : Int) : FstW w cm F (wr.setCell ⟨F, k, none⟩ (.int .i64 v)) (cs.set k v) :=
  ⟨h.m.setO _ _ (by have := h.ge; show w.heap.size ≠ F; omega), h.r.setO _ _ (by have := h.ge; show w.heap.size + 1 ≠ F; omega), by have := h.t.set k (.int .i64 v); rwa [set_num] at this, h.bel.setCell (p := ⟨F, k, none⟩) (by have := h.ge; show w.heap.size ≤ F; omega) _, h.ge⟩
/-- A table of one row. -/
theorem GridM.one {W : World} {base n F : Nat} {row : List Int} (h : Blk W F (row.map (Value.int .i64)).toArray 3) (hn : row.length = n) (hb : base ≤ F) (hW : base ≤ W.heap.size) : GridM (W.alloc (.cells #[.slice (some ⟨F, 0, none⟩) n n] 34)) base n (.slice (some ⟨W.heap.size, 0, none⟩) 1 1) [F] [row] := by
  refine ⟨rfl, ⟨rfl, .inr ⟨W.heap.size, 1, #[.slice (some ⟨F, 0, none⟩) n n], rfl, hW, Blk.made _ _ _, Nat.le_refl _, by decide, rfl, rfl⟩⟩, fun j hj => ?_, fun i j hi hj hij => ?_⟩
  · obtain rfl : j = 0 := by simpa using hj
    exact ⟨hb, hn, h.alloc _⟩
  · simp at hi hj; omega
set_option maxRecDepth 100000 in
set_option maxHeartbeats 60000000 in
theorem certR_ok (z : Int) (a : Option Addr) (cap : Nat) (l : List St) (w : World) (hM : Mach w (.agg #[.int .i64 z, .slice a l.length cap]) (z, l)) (hok : okM (z, l)) (hr : faultM (z, l) = 0) (he : empB l = false) (hz : 0 ≤ z) :
    Calls Tryd.prog 8 #[.agg #[.int .i64 z, .slice a l.length cap]] w fun e w' => RatRes (cerA (z, l)).1 (cerA (z, l)).2 w e w' := by
  have HM := hidP hM
  have HK := hidP hok
  have HR := hidP hr
  obtain ⟨zn, rfl⟩ : ∃ zn : Nat, z = (zn : Int) := ⟨z.toNat, by omega⟩
  have hzl : zn < l.length := by have := (right_parts hr).1; simp only at this; omega
  have h60 := (right_size hr).1
  have HAN : Hid (cerA ((zn : Int), l) = numA (finC l) (hopsC l) (iniS l.length zn)) := by
    show _ = _
    unfold cerA
    rw [if_neg (fun g => g hr), he, if_neg (by decide), if_neg (by simp)]
    simp
  have HSET : Hid (∀ q L S nn, NumI (finC l) (hopsC l) (iniS l.length zn) q L S nn → ∀ j, j < L.length → SetN l.length 1000000000000 (el L j)) := fun q L S nn h j hj => (cer_set (m := ((zn : Int), l)) hr hzl h.exp (el_mem hj)).mono (by omega)
  have HFB : Hid (∀ q, q < l.length → 0 ≤ (el l q).1 ∧ (el l q).1 ≤ 1000000001) := fun q hq => by
    have h1 := (right_states hr q hq).1
    simp [finB, inB] at h1
    omega
  have HI0 := hidP (NumI.init (finC l) (hopsC l) (iniS l.length zn))
  have HFF := fF_emp l
  rw [he] at HFF
  simp only [Bool.not_false] at HFF
  obtain ⟨vs', hv', hSt⟩ := hM
  obtain ⟨a9, cap9, hv9, hc9⟩ := hSt.get
  subst hv9
  simp only [Value.agg.injEq, Array.mk.injEq, List.cons.injEq, and_true, true_and, Value.slice.injEq] at hv'
  obtain ⟨ea, ec⟩ := hv'
  subst ea
  subst ec
  simp only at hc9
  have HC := hidP hc9
  have HLK : Hid (∀ W, Below w.heap.size w W → Calls Tryd.prog 17 #[.agg #[.int .i64 (zn : Int), .slice a l.length cap]] W fun e w' => e = .returned (.tuple #[.agg (flags (fA l l.length) true (fC l l.length) (fS l l.length) (fP l l.length)), .int .i64 0]) ∧ Below W.heap.size W w') := fun W hW => by
    have := like_ok (zn : Int) a cap l W (HM.out.later hW (Nat.le_refl _)) HK.out HR.out (fun j hj => by
      obtain ⟨b, off, va, h1, h2, h3, h4, h5⟩ := HC.out j hj
      exact ⟨b, off, va, h1, Nat.lt_of_lt_of_le h2 hW.size, (hW.cell (p := ⟨b, off + j * 2, none⟩) h2).trans h3, (hW.cell (p := ⟨b, off + j * 2 + 1, none⟩) h2).trans h4, h5.later hW (Nat.le_refl _)⟩)
    rw [HFF] at this
    exact this
  have z1 : ¬ (zn : Int) < 0 := by omega
  generalize fA l l.length = b1 at *
  generalize fC l l.length = b3 at *
  generalize fS l l.length = b4 at *
  generalize fP l l.length = b5 at *
  clear hSt hc9 hok hr he HFF
  generalize hn : l.length = n at *
  have HN := hidP hn
  clear hn
  obtain ⟨X, hX⟩ : ∃ X, cerA ((zn : Int), l) = X := ⟨_, rfl⟩
  rw [hX]
  have HX : Hid (numA (finC l) (hopsC l) (iniS n zn) = X) := HAN.out.symm.trans hX
  clear hX HAN
  have hmk := run_nums n (by omega)
  have HIN : Hid ((List.replicate n noneI).set zn 0 = iniS n zn) := rfl
  simp only [flags] at HLK
  go_enter Tryd.func8, Tryd.ntmps8
  go_wp2_with (first
    | (go_at_call 17; (with_reducible refine (HLK.out _ (by go_grown)).mono ?_); rintro e w1 ⟨rfl, hb⟩; obtain ⟨s1, k0, k1, hb1⟩ := boxedTwo hb (by simp); have HB1 := hidP hb1; have K0 := hidP k0; have K1 := hidP k1; have c0 := k0.cell 0 (v := .int .i64 (zn : Int)) rfl; have c1 := k0.cell 1 (v := .slice a n cap) rfl; have l0 : w.heap.size < w1.heap.size := (by omega); have l1 : w.heap.size ≠ w1.heap.size := (by omega); clear hb hb1 k0 k1))
  have HF0 : Hid (FstW w #[.int .i64 (zn : Int), .slice a n cap] (w1.heap.size + 1) ((w1.alloc (.cells #[.bool b1, .bool true, .bool b3, .bool b4, .bool b5] 37)).alloc (.cells ((List.replicate n (0 : Int)).map (Value.int .i64)).toArray 3)) (List.replicate n 0)) := by
    have k1 := Blk.made (w1.alloc (.cells #[.bool b1, .bool true, .bool b3, .bool b4, .bool b5] 37)) ((List.replicate n (0 : Int)).map (Value.int .i64)).toArray 3
    rw [World.size_alloc] at k1
    exact ⟨(K0.out.alloc _).alloc _, (K1.out.alloc _).alloc _, k1, (HB1.out.alloc HB1.out.size _).alloc (by simp; omega) _, by omega⟩
  clear hmk K0 K1 c0 c1 HB1 HLK
  generalize hF : w1.heap.size + 1 = F at *
  clear hF
  go_loopw [8] (fun i wr => ∃ (k : Nat) (cs : List Int), k ≤ n ∧ i = .int .i64 k ∧ Hid (cs.length = n ∧ ∀ j, j < k → el cs j = noneI) ∧ Hid (FstW w #[.int .i64 (zn : Int), .slice a n cap] F wr cs)) (fun i _ => n - (intOf i).toNat)
  case atStart => exact ⟨0, List.replicate n 0, Nat.zero_le _, rfl, ⟨by simp, fun j hj => absurd hj (by omega)⟩, by have h9 := HF0.out; simp only [List.map_replicate, List.toArray_replicate] at h9 ⊢; exact h9⟩
  case round =>
    clear HF0
    obtain ⟨k, cs, hk, rfl, hcs, hT⟩ := hrel
    by_cases hkN : k < n
    · have hk1 : (k : Int) < (n : Int) := by omega
      have hk0 : (0 : Int) ≤ (k : Int) := by omega
      have c0 := num_cell hT.out.t (j := k) (by rw [hcs.out.1]; exact hkN)
      have f0 := hT.out.t.fz k
      go_wp2
      go_roundw
      case rel => exact ⟨k + 1, cs.set k noneI, by omega, by go_num, ⟨by rw [List.length_set]; exact hcs.out.1, fun j hj => by rw [el_setN (by rw [hcs.out.1]; exact hkN)]; split; rfl; exact hcs.out.2 j (by omega)⟩, hT.out.set k _⟩
      case measure => simp [intOf]; omega
    · have hk1 : ¬ (k : Int) < (n : Int) := by omega
      obtain rfl : k = n := by omega
      have hrep : cs = List.replicate k noneI := el_ext (by rw [hcs.out.1]; simp) fun j hj => by
        rw [hcs.out.1] at hj
        rw [hcs.out.2 j hj, el_get (by simpa using hj)]
        simp
      subst hrep
      have c0 := hT.out.m.cell 0 (v := .int .i64 (zn : Int)) rfl
      have t0 := num_cell hT.out.t (j := zn) (by simpa using hzl)
      have f0 := hT.out.t.fz zn
      have z2 : (0 : Int) ≤ (zn : Int) := by omega
      have z3 : (zn : Int) < (k : Int) := by omega
      have HTS := hidP (hT.out.set zn 0)
      rw [HIN.out] at HTS
      have HT0 : Hid (CerAt w ((((wr.setCell ⟨F, zn, none⟩ (.int .i64 0)).alloc (.cells #[.slice (some ⟨F, 0, none⟩) k k] 34))).alloc (.cells #[.int .i64 0, .slice none 0 0] 24)) #[.int .i64 (zn : Int), .slice a k cap] (wr.heap.size + 1) k (.slice none 0 0) [] (.slice (some ⟨wr.heap.size, 0, none⟩) 1 1) [F] [iniS k zn]) := by
        have hsz : (wr.setCell ⟨F, zn, none⟩ (.int .i64 0)).heap.size = wr.heap.size := by simp [World.setCell]
        have k1 := Blk.made ((wr.setCell ⟨F, zn, none⟩ (.int .i64 0)).alloc (.cells #[.slice (some ⟨F, 0, none⟩) k k] 34)) #[.int .i64 0, .slice none 0 0] 24
        rw [World.size_alloc, hsz] at k1
        have hlt := HTS.out.t.lt
        have hge := HTS.out.ge
        have hG := GridM.one (n := k) (base := w.heap.size + 2) HTS.out.t (by simp [iniS]) hge (by omega)
        rw [hsz] at hG hlt
        exact ⟨(HTS.out.m.alloc _).alloc _, (HTS.out.r.alloc _).alloc _, k1, OwnSts.nil _ _, hG.later ((Below.refl _ _).alloc (Nat.le_refl _) _), (HTS.out.bel.alloc HTS.out.bel.size _).alloc (by have := HTS.out.bel.size; simp; omega) _, by omega⟩
      clear hcs hkN hk1 HTS
      go_wp2
      clear c0 t0 f0 hT
      generalize hMq : wr.heap.size + 1 = M at *
      clear hMq
      go_loopw [9, 11, 12] (fun s9 s11 s12 wr => ∃ (q ac : Nat) (vl vm : Value) (gs : List Nat) (L : List (List Int)) (S : List St), vl = s9 ∧ s11 = .int .i64 (ac : Int) ∧ s12 = .int .i64 (q : Int) ∧ Hid (NumI (finC l) (hopsC l) (iniS k zn) q L S ac) ∧ Hid (CerAt w wr #[.int .i64 (zn : Int), .slice a k cap] M k vm S vl gs L)) (fun _ _ s12 _ => 61 - (intOf s12).toNat)
      case atStart => exact ⟨0, 0, _, _, _, _, [], rfl, rfl, rfl, HI0, HT0⟩
      case round =>
        clear HI0 HT0
        obtain ⟨q, ac, vl, vm, gs, L, S, rfl, rfl, rfl, hI, hT⟩ := hrel
        obtain ⟨w4, hw4⟩ : ∃ w4, w4 = wr := ⟨_, rfl⟩
        subst hw4
        have hq60 := hI.out.l60
        have hqle := hI.out.le
        have hn4 := hI.out.n4
        by_cases hlt : q < L.length
        · obtain ⟨G, capG, hvl, hGb, hGl, hGc⟩ := hT.out.grid.cells (by omega)
          subst hvl
          have q0 : (0 : Int) ≤ (q : Int) := by omega
          have q1 : (q : Int) < ((L.length : Nat) : Int) := by omega
          have hgl := hT.out.grid.1
          have hrow := hGc q hlt
          obtain ⟨_, hrl, hBq⟩ := hT.out.grid.2.2.1 q (by omega)
          have HBQ := hidP hBq
          have HSQ := hidP (HSET.out q L S ac hI.out q hlt)
          have HERR := hidP (hI.out.err hlt)
          have HOVR := hidP (fun he i => hI.out.over (i := i) hlt he)
          have HFUL := hidP (fun he i => hI.out.full (i := i) hlt he)
          have HNXT := hidP (hI.out.next hlt)
          have HND := hidP (fun i => hpL_nodup (hs := hopsC l (el L q)) hI.out.nodup i)
          have HSL := hidP hI.out.len
          obtain ⟨row, hrw⟩ : ∃ row, el L q = row := ⟨_, rfl⟩
          obtain ⟨gq, hgq⟩ : ∃ gq, el gs q = gq := ⟨_, rfl⟩
          rw [hrw] at HBQ HSQ HERR HOVR HFUL HNXT HND hrl
          rw [hgq] at HBQ hrow
          clear hrw hgq hBq hGc hI
          have d1 := hT.out.bxA.cell 1 (v := .slice a k cap) rfl
          have HFS : Hid (∀ p, p < k → mnL (fnsU l row (p + 1)) = if el row p = noneI ∨ (el l p).1 = 1000000001 then mnL (fnsU l row p) else if el row p + (el l p).1 < mnL (fnsU l row p) then el row p + (el l p).1 else mnL (fnsU l row p)) := fun p hp => by
            rw [fnsU_succ]
            by_cases e : el row p = noneI ∨ (el l p).1 = 1000000001
            · rw [if_pos e, if_pos e, List.append_nil]
            · rw [if_neg e, if_neg e, mnL_snoc]
              have h1 := HFB.out p hp
              rcases HSQ.out.rng p hp with g | g
              · exact absurd (.inl g) e
              · unfold noneI; omega
          have HFE : Hid (finC l row = (tldN (mnL (fnsU l row k)), tldE (mnL (fnsU l row k)))) := by
            show _ = _
            unfold finC
            rw [← HN.out]
            rfl
          go_wp2
          go_loopw [14, 15] (fun s14 s15 wr => ∃ (p : Nat) (y : Int), p ≤ k ∧ s14 = .int .i64 y ∧ s15 = .int .i64 (p : Int) ∧ Hid (mnL (fnsU l row p) = y) ∧ Hid (CerAt w wr #[.int .i64 (zn : Int), .slice a k cap] M k vm S (.slice (some ⟨G, 0, none⟩) L.length capG) gs L) ∧ Hid (Blk wr gq (row.map (Value.int .i64)).toArray 3)) (fun _ s15 _ => k - (intOf s15).toNat)
          case atStart => exact ⟨0, noneI, Nat.zero_le _, rfl, rfl, by show _ = _; simp [fnsU, mnL], hT, HBQ⟩
          case round =>
            clear hT HBQ d1 hrow
            obtain ⟨p, y, hp, rfl, rfl, hy, hT, HBQ⟩ := hrel
            obtain ⟨w5, hw5⟩ : ∃ w5, w5 = wr := ⟨_, rfl⟩
            subst hw5
            by_cases hpk : p < k
            · have p0 : (0 : Int) ≤ (p : Int) := by omega
              have p1 : (p : Int) < (k : Int) := by omega
              have HS := hidP (HFS.out p hpk)
              rw [hy.out] at HS
              have r0 := num_cell HBQ.out (j := p) (by omega)
              obtain ⟨b, off, va, hab, hbl, x0, _⟩ := HC.out p hpk
              subst hab
              have HX0 := hidP x0
              have x0 := (hT.out.below.cell (p := ⟨b, off + p * 2, none⟩) hbl).trans x0
              have d1 := hT.out.bxA.cell 1 (v := .slice (some ⟨b, off, none⟩) k cap) rfl
              have hfb := HFB.out p hpk
              have hsb := HSQ.out.rng p hpk
              obtain ⟨sp, hsp⟩ : ∃ sp, el row p = sp := ⟨_, rfl⟩
              obtain ⟨fp, hfp⟩ : ∃ fp, (el l p).1 = fp := ⟨_, rfl⟩
              have HSP := hidP hsp
              rw [hsp] at r0 HS hsb
              rw [hfp] at x0 HS hfb HX0
              clear hsp hfp
              by_cases e1 : sp = noneI
              · rw [if_pos (.inl e1)] at HS
                have e1' : (sp != 1152921504606846976) = false := by rw [e1]; rfl
                clear e1
                go_wp2
                go_quiet (fail)
                have HT5 := hidP (hT.out.drewN nq)
                have HB5 := hidP (HBQ.out.drewN nq)
                go_wp2
                go_roundw
                case rel => exact ⟨p + 1, y, by omega, rfl, by go_num, HS, HT5, HB5⟩
                case measure => simp [intOf]; omega
              · have e1' : (sp != 1152921504606846976) = true := by simpa [noneI] using e1
                have hsp2 : 0 ≤ sp ∧ sp ≤ 1000000000000 := by rcases hsb with g | g; exact absurd g e1; exact g
                by_cases e2 : fp = 1000000001
                · rw [if_pos (.inr e2)] at HS
                  have e2' : (fp != 1000000001) = false := by rw [e2]; rfl
                  clear e2
                  go_wp2
                  go_quiet (fail)
                  have HT5 := hidP (hT.out.drewN nq)
                  have HB5 := hidP (HBQ.out.drewN nq)
                  go_wp2
                  go_roundw
                  case rel => exact ⟨p + 1, y, by omega, rfl, by go_num, HS, HT5, HB5⟩
                  case measure => simp [intOf]; omega
                · rw [if_neg (fun g => g.elim e1 e2)] at HS
                  have e2' : (fp != 1000000001) = true := by simpa using e2
                  have hwr : IntKind.i64.wrap (sp + fp) = sp + fp := wrapI (by omega) (by omega)
                  by_cases e3 : sp + fp < y
                  · rw [if_pos e3] at HS
                    have e3' : decide (sp + fp < y) = true := decide_eq_true e3
                    go_wp2
                    go_quiet (fail)
                    have HT5 := hidP (hT.out.drewN nq)
                    have HB5 := hidP (HBQ.out.drewN nq)
                    clear hT HBQ r0 x0 d1
                    generalize w5.drewN nq = w6 at *
                    have r0 := num_cell HB5.out (j := p) (by omega)
                    rw [HSP.out] at r0
                    have x0 := (HT5.out.below.cell (p := ⟨b, off + p * 2, none⟩) hbl).trans HX0.out
                    have d1 := HT5.out.bxA.cell 1 (v := .slice (some ⟨b, off, none⟩) k cap) rfl
                    go_wp2
                    go_quiet (fail)
                    have HT6 := hidP (HT5.out.drewN nq)
                    have HB6 := hidP (HB5.out.drewN nq)
                    go_wp2
                    go_roundw
                    case rel => exact ⟨p + 1, sp + fp, by omega, rfl, by go_num, HS, HT6, HB6⟩
                    case measure => simp [intOf]; omega
                  · rw [if_neg e3] at HS
                    have e3' : decide (sp + fp < y) = false := decide_eq_false e3
                    go_wp2
                    go_quiet (fail)
                    have HT5 := hidP (hT.out.drewN nq)
                    have HB5 := hidP (HBQ.out.drewN nq)
                    go_wp2
                    go_roundw
                    case rel => exact ⟨p + 1, y, by omega, rfl, by go_num, HS, HT5, HB5⟩
                    case measure => simp [intOf]; omega
            · have p1 : ¬ (p : Int) < (k : Int) := by omega
              obtain rfl : p = k := by omega
              rw [hy.out] at HFE
              obtain ⟨f, hf⟩ : ∃ f, tldN y = f := ⟨_, rfl⟩
              obtain ⟨ec, hec⟩ : ∃ ec, tldE y = ec := ⟨_, rfl⟩
              have HTD : Hid (∀ W, Calls Tryd.prog 18 #[.int .i64 y] W fun e w' => e = .returned (.tuple #[.int .i64 f, .int .i64 ec]) ∧ W = w') := fun W => by
                subst hf
                subst hec
                exact told_ans y W
              rw [hf, hec] at HFE
              have HE1 : Hid ((finC l row).1 = f) := by show _ = _; rw [HFE.out]
              have HE2 : Hid ((finC l row).2 = ec) := by show _ = _; rw [HFE.out]
              clear hf hec HFE HFS
              by_cases hz0 : ec = 0
              · subst hz0
                have HOVR := hidP (HOVR.out HE2.out)
                have HFUL := hidP (HFUL.out HE2.out)
                have HNXT := hidP (HNXT.out HE2.out)
                rw [HE1.out] at HNXT
                clear HERR HE2 HE1
                have HMW : Hid (∀ W, Below w5.heap.size w5 W → Mach W (.agg #[.int .i64 (zn : Int), .slice a p cap]) ((zn : Int), l)) := fun W hW => HM.out.later (hT.out.below.trans (hW.mono hT.out.below.size)) (Nat.le_refl _)
                have HNW : Hid (∀ W, Below w5.heap.size w5 W → Nums W (.slice (some ⟨gq, 0, none⟩) p p) row) := fun W hW => by
                  have h9 := nums_block (cap := p) HBQ.out
                  rw [hrl] at h9
                  exact h9.later hW (Nat.le_refl _)
                have HRL : Hid (row.length = l.length) := by rw [HN.out]; exact hrl
                have d0 := hT.out.bxA.cell 0 (v := .int .i64 (zn : Int)) rfl
                have d1 := hT.out.bxA.cell 1 (v := .slice a p cap) rfl
                have lB := hT.out.bxA.lt
                have lB2 : w.heap.size ≠ w5.heap.size := by omega
                have HBA : Hid (Below w5.heap.size w5 (w5.alloc (.cells #[.int .i64 f, .slice none 0 0] 46))) := (Below.refl _ _).alloc (Nat.le_refl _) _
                go_wp2_with (first
                  | (go_at_call 18; (with_reducible refine (HTD.out _).mono ?_); rintro e w99 ⟨rfl, hw9⟩; subst hw9)
                  | (go_at_call 19; (with_reducible refine (pairs_any _ _ ((zn : Int), l) row _ (HMW.out _ HBA.out) HR.out (HNW.out _ HBA.out) HRL.out).mono ?_); rintro e w7 ⟨vP, P, rfl, hP, hPl, hPo, hb7⟩; have E7 := hidP (hT.out.enter f hb7); have HB7 := hidP (HBA.out.trans (hb7.mono HBA.out.size)); have HP := hidP hP; have HPO : Hid (OwnArcs w7 (w5.heap.size + 1) vP P) := (by have h9 := hPo; simp only [World.size_alloc] at h9; exact h9); obtain ⟨aP, cP, hvP⟩ := hPo.sl; subst hvP; clear hP hPo hb7))
                obtain ⟨hHl, hHe⟩ := hops_el HP.out
                have HHE := hidP hHe
                have HLH := hidP hHl
                obtain ⟨hs, hhs⟩ : ∃ hs, hopsC l row = hs := ⟨_, rfl⟩
                rw [hhs] at HOVR HFUL HNXT HND HHE HLH
                clear hhs hHl hHe HP HTD HMW HNW HBA d0 d1 lB lB2
                obtain ⟨r0, hr0⟩ : ∃ r0, (Value.slice (some ⟨G, 0, none⟩) L.length capG).ownBlock = r0 := ⟨_, rfl⟩
                rw [hr0] at E7
                have HGQ : Hid (∀ W, w5.grownBy W r0 → Blk W gq (row.map (Value.int .i64)).toArray 3) := fun W hW => HBQ.out.grown hW (by rw [← hr0]; exact own_ne hT.out.grid.2.1 HBQ.out (by decide))
                have HTW : Hid (∀ W vl gs Lx, w5.grownBy W r0 → GridM W (w.heap.size + 2) p vl gs Lx → CerAt w W #[.int .i64 (zn : Int), .slice a p cap] M p vm S vl gs Lx) := fun W vl gs Lx hW hG => hT.out.meanwhile (by rw [hr0]; exact hW) hG
                have hs5 : w.heap.size + 2 ≤ w5.heap.size := by have := hT.out.bxM.lt; have := hT.out.sM; omega
                clear hr0
                obtain ⟨Sb, hSb⟩ : ∃ Sb, Sb = w5.heap.size := ⟨_, rfl⟩
                have HSB := hidP hSb
                rw [← hSb] at E7 HPO hs5
                rw [← HSB.out]
                clear hSb
                have HP4 : Hid (P.length ≤ 400) := hPl
                obtain ⟨nP, hnP⟩ : ∃ nP, P.length = nP := ⟨_, rfl⟩
                rw [hnP] at HP4 HLH HHE HPO ⊢
                have HNP := hidP hnP
                clear hnP hPl
                clear HK HFB HIN HC HSET hy HRL HP4 hk hp hpk z2 z3 hz l0 l1 s1 hgl q0 q1 hGb hGl
                go_loopw [9, 11, 20] (fun s9 s11 s20 wr => ∃ (i : Nat) (vl va : Value) (gs : List Nat), vl = s9 ∧ s11 = .int .i64 ((ac + i : Nat) : Int) ∧ s20 = .int .i64 (i : Int) ∧ i ≤ nP ∧ Hid (Fine hs L ac i) ∧ Hid (CerIn w5 w7 wr r0 (w.heap.size + 2) p Sb f va (hpA hs L i) vl gs (hpL hs L i))) (fun _ _ s20 _ => nP - (intOf s20).toNat)
                case atStart => exact ⟨0, _, _, _, rfl, by simp, rfl, Nat.zero_le _, fun j hj => absurd hj (by omega), E7⟩
                case round =>
                  clear E7 HBQ hT
                  obtain ⟨i, vl, va, gs5, rfl, rfl, rfl, hi, hF, hE⟩ := hrel
                  obtain ⟨w8, hw8⟩ : ∃ w8, w8 = wr := ⟨_, rfl⟩
                  subst hw8
                  by_cases hil : i < nP
                  · obtain ⟨bP, hbP, hPge, hPlt, c0, c1⟩ := HPO.out.spot (k := i) (by rw [HNP.out]; exact hil)
                    subst hbP
                    have hHi := HHE.out i hil
                    have C0 := hidP c0
                    have C1 := hidP c1
                    have hSw : w5.heap.size ≤ bP := by rw [← HSB.out]; omega
                    have hSn : bP ≠ Sb := by omega
                    have c0 := hE.out.cell hSw hPlt hSn c0
                    have c1 := hE.out.cell hSw hPlt hSn c1
                    have T8 := hidP (HTW.out _ _ _ _ hE.out.grow hE.out.grid)
                    have Q8 := hidP (HGQ.out _ hE.out.grow)
                    have d0 := T8.out.bxA.cell 0 (v := .int .i64 (zn : Int)) rfl
                    have d1 := T8.out.bxA.cell 1 (v := .slice a p cap) rfl
                    have lA := T8.out.bxA.lt
                    have i0 : (0 : Int) ≤ (i : Int) := Int.natCast_nonneg _
                    have i1 : (i : Int) < ((nP : Nat) : Int) := by omega
                    obtain ⟨x0, hx0⟩ : ∃ x0, (el P i).1 = x0 := ⟨_, rfl⟩
                    obtain ⟨x1, hx1⟩ : ∃ x1, (el P i).2.1 = x1 := ⟨_, rfl⟩
                    rw [hx0] at c0 C0
                    rw [hx1] at c1 C1
                    simp only [prA, hopC, hx0, hx1] at hHi
                    clear hx0 hx1
                    obtain ⟨N, hN⟩ : ∃ N, behL l row x0 x1 = N := ⟨_, rfl⟩
                    have HNL : Hid (N.length = p) := by show _ = _; rw [← hN, beh_len, HN.out]
                    have HNN : Hid (∀ c ∈ N, c ≤ noneI) := fun c hc => by
                      rw [← hN] at hc
                      obtain ⟨t, ht, e⟩ := List.getElem_of_mem hc
                      rw [beh_len] at ht
                      rw [← e, ← el_get (by rw [beh_len]; exact ht), beh_el ht]
                      exact mnL_none _
                    have HN0 : Hid (∀ c ∈ N, 0 ≤ c) := by rw [← hN]; exact beh_ge (m := ((zn : Int), l)) HR.out (by simp only; rw [HN.out]; exact HSQ.out) x0 x1
                    have HBH := hidP (behind_any (.agg #[.int .i64 (zn : Int), .slice a p cap]) (.slice (some ⟨gq, 0, none⟩) p p) ((zn : Int), l) row x0 x1 w8.drew (HM.out.later T8.out.drew.below (Nat.le_refl _)) HR.out (by have h9 := nums_block (cap := p) (Q8.out.drew); rw [hrl] at h9; exact h9) (by simp only; rw [HN.out]; exact HSQ.out))
                    simp only at HBH
                    rw [HN.out, hN] at HBH
                    rw [hN] at hHi
                    clear hN
                    obtain ⟨W0, hW0⟩ : ∃ W0, mnL N = W0 := ⟨_, rfl⟩
                    have HW0 := hidP hW0
                    have w0 : 0 ≤ W0 := by rw [← hW0]; exact min_ge HN0.out
                    rw [hW0] at hHi
                    clear hW0
                    have HHI := hidP hHi
                    have HGN : Hid (∀ j, j < gs5.length → el gs5 j < w8.heap.size) := fun j hj => (hE.out.grid.2.2.1 j hj).2.2.lt
                    have s78 := hE.out.s7
                    have HS0 : HeldYa w.heap.size (zn : Int) (.slice a p cap) bP (i * 4) x0 x1 w8.drew := ⟨d0, d1, c0, c1⟩
                    clear hHi d0 d1 c0 c1 T8 Q8
                    have PKA := hidP (And.intro HX (And.intro HR (And.intro HM (And.intro HN (And.intro HSL (And.intro HB7 (And.intro HND (And.intro HNXT (And.intro HFUL (And.intro HOVR (And.intro HGQ (And.intro HTW (And.intro HSB (And.intro HHE (And.intro HLH (And.intro HNP (And.intro hF (And.intro HSQ (And.intro HPO (And.intro HNL (And.intro HNN (And.intro HN0 (And.intro HW0 (And.intro HHI (And.intro HGN (And.intro C0 (C1)))))))))))))))))))))))))))
                    clear HX HR HM HN HSL HB7 HND HNXT HFUL HOVR HGQ HTW HSB HHE HLH HNP hF HSQ HPO HNL HNN HN0 HW0 HHI HGN C0 C1
                    go_wp2
                    refine region_anyL (HeldYa w.heap.size (zn : Int) (.slice a p cap) bP (i * 4) x0 x1) 13 (by kernel_rfl) ?_
                    refine anyL_take (i := 0) (v := ?v0_1) at0 (by kernel_rfl) (by kernel_rfl) (by kernel_rfl) (by kernel_rfl) (fun _ _ _ h => h) rfl ?y0_1 HS0 ?r0_1
                    case y0_1 => intro wx hx; obtain ⟨y0, y1, y2, y3⟩ := hx; go_simp; try (with_reducible rfl)
                    simp only [Act.put, List.setIfInBounds_toArray, List.set_cons_zero, List.set_cons_succ]
                    refine anyL_take (i := 1) (v := ?v1_2) (atS at0) (by kernel_rfl) (by kernel_rfl) (by kernel_rfl) (by kernel_rfl) (fun _ _ _ h => h) rfl ?y1_2 HS0 ?r1_2
                    case y1_2 => intro wx hx; obtain ⟨y0, y1, y2, y3⟩ := hx; go_simp; try (with_reducible rfl)
                    simp only [Act.put, List.setIfInBounds_toArray, List.set_cons_zero, List.set_cons_succ]
                    refine anyL_take (i := 2) (v := ?v2_3) (atS (atS at0)) (by kernel_rfl) (by kernel_rfl) (by kernel_rfl) (by kernel_rfl) (fun _ _ _ h => h) rfl ?y2_3 HS0 ?r2_3
                    case y2_3 => intro wx hx; obtain ⟨y0, y1, y2, y3⟩ := hx; go_simp; try (with_reducible rfl)
                    simp only [Act.put, List.setIfInBounds_toArray, List.set_cons_zero, List.set_cons_succ]
                    refine anyL_take (i := 3) (v := ?v3_4) (atS (atS (atS at0))) (by kernel_rfl) (by kernel_rfl) (by kernel_rfl) (by kernel_rfl) (fun _ _ _ h => h) rfl ?y3_4 HS0 ?r3_4
                    case y3_4 => intro wx hx; obtain ⟨y0, y1, y2, y3⟩ := hx; go_simp; try (with_reducible rfl)
                    simp only [Act.put, List.setIfInBounds_toArray, List.set_cons_zero, List.set_cons_succ]
                    refine anyL_take (i := 4) (v := ?v4_5) (atS (atS (atS (atS at0)))) (by kernel_rfl) (by kernel_rfl) (by kernel_rfl) (by kernel_rfl) (fun _ _ _ h => h) rfl ?y4_5 HS0 ?r4_5
                    case y4_5 => intro wx hx; obtain ⟨y0, y1, y2, y3⟩ := hx; go_simp; try (with_reducible rfl)
                    simp only [Act.put, List.setIfInBounds_toArray, List.set_cons_zero, List.set_cons_succ]
                    refine anyL_take (i := 5) (v := ?v5_6) (atS (atS (atS (atS (atS at0))))) (by kernel_rfl) (by kernel_rfl) (by kernel_rfl) (by kernel_rfl) (fun _ _ _ h => h) rfl ?y5_6 HS0 ?r5_6
                    case y5_6 => intro wx hx; obtain ⟨y0, y1, y2, y3⟩ := hx; go_simp; try (with_reducible rfl)
                    simp only [Act.put, List.setIfInBounds_toArray, List.set_cons_zero, List.set_cons_succ]
                    refine anyL_take (i := 6) (v := ?v6_7) (atS (atS (atS (atS (atS (atS at0)))))) (by kernel_rfl) (by kernel_rfl) (by kernel_rfl) (by kernel_rfl) (fun _ _ _ h => h) rfl ?y6_7 HS0 ?r6_7
                    case y6_7 => intro wx hx; obtain ⟨y0, y1, y2, y3⟩ := hx; go_simp; try (with_reducible rfl)
                    simp only [Act.put, List.setIfInBounds_toArray, List.set_cons_zero, List.set_cons_succ]
                    refine anyL_take (i := 7) (v := ?v7_8) (atS (atS (atS (atS (atS (atS (atS at0))))))) (by kernel_rfl) (by kernel_rfl) (by kernel_rfl) (by kernel_rfl) (fun _ _ _ h => h) rfl ?y7_8 HS0 ?r7_8
                    case y7_8 => intro wx hx; obtain ⟨y0, y1, y2, y3⟩ := hx; go_simp; try (with_reducible rfl)
                    simp only [Act.put, List.setIfInBounds_toArray, List.set_cons_zero, List.set_cons_succ]
                    refine anyL_take (i := 8) (v := ?v8_9) (atS (atS (atS (atS (atS (atS (atS (atS at0)))))))) (by kernel_rfl) (by kernel_rfl) (by kernel_rfl) (by kernel_rfl) (fun _ _ _ h => h) rfl ?y8_9 HS0 ?r8_9
                    case y8_9 => intro wx hx; obtain ⟨y0, y1, y2, y3⟩ := hx; go_simp; try (with_reducible rfl)
                    simp only [Act.put, List.setIfInBounds_toArray, List.set_cons_zero, List.set_cons_succ]
                    refine anyL_take (i := 9) (v := ?v9_10) (atS (atS (atS (atS (atS (atS (atS (atS (atS at0))))))))) (by kernel_rfl) (by kernel_rfl) (by kernel_rfl) (by kernel_rfl) (fun _ _ _ h => h) rfl ?y9_10 HS0 ?r9_10
                    case y9_10 => intro wx hx; obtain ⟨y0, y1, y2, y3⟩ := hx; go_simp; try (with_reducible rfl)
                    simp only [Act.put, List.setIfInBounds_toArray, List.set_cons_zero, List.set_cons_succ]
                    refine anyL_take (i := 10) (v := ?v10_11) (atS (atS (atS (atS (atS (atS (atS (atS (atS (atS at0)))))))))) (by kernel_rfl) (by kernel_rfl) (by kernel_rfl) (by kernel_rfl) (fun _ _ _ h => h) rfl ?y10_11 HS0 ?r10_11
                    case y10_11 => intro wx hx; obtain ⟨y0, y1, y2, y3⟩ := hx; go_simp; try (with_reducible rfl)
                    simp only [Act.put, List.setIfInBounds_toArray, List.set_cons_zero, List.set_cons_succ]
                    refine anyL_take (i := 11) (v := ?v11_12) (atS (atS (atS (atS (atS (atS (atS (atS (atS (atS (atS at0))))))))))) (by kernel_rfl) (by kernel_rfl) (by kernel_rfl) (by kernel_rfl) (fun _ _ _ h => h) rfl ?y11_12 HS0 ?r11_12
                    case y11_12 => intro wx hx; obtain ⟨y0, y1, y2, y3⟩ := hx; go_simp; try (with_reducible rfl)
                    simp only [Act.put, List.setIfInBounds_toArray, List.set_cons_zero, List.set_cons_succ]
                    refine anyL_one (i := 12) (atS (atS (atS (atS (atS (atS (atS (atS (atS (atS (atS (atS at0)))))))))))) (by kernel_rfl) rfl (fun K hK => ?_)
                    go_simp
                    with_reducible refine HBH.out.mono ?_
                    rintro e w9 ⟨rfl, hb9, hbb9⟩
                    have HS9 := HS0.later hbb9 (by exact lA) (by exact Nat.lt_of_lt_of_le hPlt hE.out.s7)
                    have E9 := hidP (hE.out.drew.later hbb9)
                    have B9 : Hid (Blk w9 (w8.heap.size + 1) (N.map (Value.int .i64)).toArray 3) := hb9
                    refine hK _ _ (.inr HS9) ?_
                    try simp only [Act.put, List.setIfInBounds_toArray, List.set_cons_zero, List.set_cons_succ]
                    refine anyL_one (i := 13) (atS (atS (atS (atS (atS (atS (atS (atS (atS (atS (atS (atS (atS at0))))))))))))) (by kernel_rfl) rfl (fun K hK => ?_)
                    go_simp
                    refine hK _ _ (.inl rfl) (anyL_done (by kernel_rfl) (NoPanic.normal ?_))
                    try simp only [Act.put, List.setIfInBounds_toArray, List.set_cons_zero, List.set_cons_succ]
                    clear hb9 hbb9 HS0 HS9 HBH hE
                    obtain ⟨HX, HR, HM, HN, HSL, HB7, HND, HNXT, HFUL, HOVR, HGQ, HTW, HSB, HHE, HLH, HNP, hF, HSQ, HPO, HNL, HNN, HN0, HW0, HHI, HGN, C0, C1⟩ := PKA.out
                    clear PKA
                    obtain ⟨g, hg⟩ : ∃ g, w8.heap.size + 1 = g := ⟨_, rfl⟩
                    have HGG := hidP hg
                    have hg7 : w7.heap.size ≤ g := by omega
                    have HGN : Hid (∀ j, j < gs5.length → el gs5 j ≠ g) := fun j hj => by have := HGN.out j hj; omega
                    rw [hg] at B9
                    rw [HGG.out]
                    clear hg HGG
                    have HLO := hidP (leastOf_any (.slice (some ⟨g, 0, none⟩) p p) N w9 (by have h9 := nums_block (cap := p) B9.out; rw [HNL.out] at h9; exact h9) HNN.out (by rw [HNL.out]; omega) W0 HW0.out)
                    by_cases hov : 1000000000 < W0
                    · have HXE : Hid (X = ((0, []), 4)) := by have h9 := HOVR.out i (by rw [HLH.out]; exact hil) hF.out (by rw [HHI.out]; exact hov); rw [HX.out] at h9; exact h9
                      have PKE := hidP (And.intro HXE HTW)
                      clear HR HM HN HSL HB7 HND HNXT HFUL HOVR HGQ HSB HHE HLH HNP hF HSQ HPO HNL HNN HN0 HW0 HHI HGN C0 C1 B9 HX HXE HTW
                      repeat (first | go_skip | go_guarded | go_step | go_upon)
                      with_reducible refine HLO.out.mono ?_
                      rintro e w10 ⟨rfl, hb10⟩
                      have E10 := hidP (E9.out.later hb10)
                      have PKF := hidP (PKE.out.2.out _ _ _ _ E10.out.grow E10.out.grid)
                      have e0 := PKF.out.bxR.cell 0 (v := .int .i64 0) rfl
                      have e1 := PKF.out.bxR.cell 1 (v := .slice none 0 0) rfl
                      have g0 := PKF.out.bxR.fz 0
                      have g1 := PKF.out.bxR.fz 1
                      clear hb10 HLO E9 E10
                      go_simp
                      repeat (first | go_skip | go_guarded | go_step | go_upon)
                      obtain ⟨HXE, _⟩ := PKE.out
                      have T10 := PKF
                      exact bodyPost_ret (res_cer _ _ (w.heap.size + 1) 4 _ _ ((T10.out.bxR.set 0 (.int .i64 0)).set 1 (.slice none 0 0)) rfl rfl) rfl ⟨_, by rw [HXE.out], by rw [HXE.out]; exact mach_zeroR _, (T10.out.below.setCell (p := ⟨w.heap.size + 1, 0, none⟩) (by show w.heap.size ≤ w.heap.size + 1; omega) _).setCell (p := ⟨w.heap.size + 1, 1, none⟩) (by show w.heap.size ≤ w.heap.size + 1; omega) _⟩
                    · have PKC := hidP (And.intro HX (And.intro HR (And.intro HM (And.intro HN (And.intro HSL (And.intro HB7 (And.intro HND (And.intro HNXT (And.intro HFUL (And.intro HOVR (And.intro HGQ (And.intro HTW (And.intro HSB (And.intro HHE (And.intro HLH (And.intro HNP (And.intro hF (And.intro HSQ (And.intro HPO (And.intro HHI (And.intro C0 (C1))))))))))))))))))))))
                      clear HX HR HM HN HSL HB7 HND HNXT HFUL HOVR HGQ HTW HSB HHE HLH HNP hF HSQ HPO HHI C0 C1
                      go_wp2_with (first
                        | (go_at_call 21; (with_reducible refine HLO.out.mono ?_); rintro e w10 ⟨rfl, hb10⟩; have E10 := hidP (E9.out.later hb10); have B10 := hidP (B9.out.below hb10 B9.out.lt); clear hb10 HLO))
                      clear E9 B9
                      go_loopw [23] (fun s23 wr => ∃ (j : Nat) (cs : List Int), j ≤ p ∧ s23 = .int .i64 (j : Int) ∧ Hid (cs.length = p ∧ (∀ t, t < j → el cs t = subI W0 (el N t)) ∧ ∀ t, j ≤ t → t < p → el cs t = el N t) ∧ Hid (Blk wr g (cs.map (Value.int .i64)).toArray 3) ∧ Hid (CerIn w5 w7 wr r0 (w.heap.size + 2) p Sb f va (hpA hs L i) vl gs5 (hpL hs L i))) (fun s23 _ => p - (intOf s23).toNat)
                      case atStart => exact ⟨0, N, Nat.zero_le _, rfl, ⟨HNL.out, fun t ht => absurd ht (by omega), fun t _ _ => rfl⟩, B10, E10⟩
                      case round =>
                        clear E10 B10
                        obtain ⟨j, cs, hj, rfl, hcs, B11, E11⟩ := hrel
                        obtain ⟨w11, hw11⟩ : ∃ w11, w11 = wr := ⟨_, rfl⟩
                        subst hw11
                        by_cases hjp : j < p
                        · as_aux_lemma =>
                          have j0 : (0 : Int) ≤ (j : Int) := by omega
                          have j1 : (j : Int) < (p : Int) := by omega
                          have r0' := num_cell B11.out (j := j) (by rw [hcs.out.1]; exact hjp)
                          have rf := B11.out.fz j
                          have hcj := hcs.out.2.2 j (Nat.le_refl _) hjp
                          rw [hcj] at r0'
                          have hmem : el N j ∈ N := el_mem (by rw [HNL.out]; exact hjp)
                          have hb1 := HNN.out _ hmem
                          have hb0 := HN0.out _ hmem
                          have HCJ := hidP hcj
                          obtain ⟨c, hc⟩ : ∃ c, el N j = c := ⟨_, rfl⟩
                          have HC9 := hidP hc
                          rw [hc] at r0' hb1 hb0 HCJ
                          clear hc hcj hmem
                          by_cases e1 : c = noneI
                          · have e1' : (c != 1152921504606846976) = false := by rw [e1]; rfl
                            have HST : Hid (cs.length = p ∧ (∀ t, t < j + 1 → el cs t = subI W0 (el N t)) ∧ ∀ t, j + 1 ≤ t → t < p → el cs t = el N t) := by
                              refine ⟨hcs.out.1, fun t ht => ?_, fun t h1 h2 => hcs.out.2.2 t (by omega) h2⟩
                              by_cases e : t = j
                              · rw [e, HCJ.out, HC9.out, e1]; simp [subI]
                              · exact hcs.out.2.1 t (by omega)
                            clear e1
                            go_wp2
                            go_roundw
                            case rel => exact ⟨j + 1, cs, by omega, by go_num, HST, B11, E11⟩
                            case measure => simp [intOf]; omega
                          · have e1' : (c != 1152921504606846976) = true := by simpa [noneI] using e1
                            have hwr : IntKind.i64.wrap (c - W0) = c - W0 := wrapI (by unfold noneI at hb1; omega) (by unfold noneI at hb1; omega)
                            have HST : Hid ((cs.set j (c - W0)).length = p ∧ (∀ t, t < j + 1 → el (cs.set j (c - W0)) t = subI W0 (el N t)) ∧ ∀ t, j + 1 ≤ t → t < p → el (cs.set j (c - W0)) t = el N t) := by
                              refine ⟨by rw [List.length_set]; exact hcs.out.1, fun t ht => ?_, fun t h1 h2 => ?_⟩
                              · rw [el_setN (by rw [hcs.out.1]; exact hjp)]
                                split
                                · rename_i e
                                  rw [e, HC9.out]
                                  unfold subI
                                  rw [if_neg e1]
                                · exact hcs.out.2.1 t (by omega)
                              · rw [el_setN (by rw [hcs.out.1]; exact hjp), if_neg (by omega)]
                                exact hcs.out.2.2 t (by omega) h2
                            have B12 : Hid (Blk (w11.setCell ⟨g, j, none⟩ (.int .i64 (c - W0))) g ((cs.set j (c - W0)).map (Value.int .i64)).toArray 3) := by have h9 := B11.out.set j (.int .i64 (c - W0)); rw [set_num] at h9; exact h9
                            have E12 := hidP (E11.out.setI B11.out hg7 HGN.out j (.int .i64 (c - W0)))
                            clear e1
                            go_wp2
                            go_roundw
                            case rel => exact ⟨j + 1, cs.set j (c - W0), by omega, by go_num, HST, B12, E12⟩
                            case measure => simp [intOf]; omega
                        · have j1 : ¬ (j : Int) < (p : Int) := by omega
                          obtain rfl : j = p := by omega
                          obtain ⟨HX, HR, HM, HN, HSL, HB7, HND, HNXT, HFUL, HOVR, HGQ, HTW, HSB, HHE, HLH, HNP, hF, HSQ, HPO, HHI, C0, C1⟩ := PKC.out
                          clear PKC
                          have hsub : cs = subS N W0 := subS_of (by rw [hcs.out.1, HNL.out]) (fun t ht => hcs.out.2.1 t (by rw [← HNL.out]; exact ht))
                          obtain ⟨nx, hnx⟩ : ∃ nx, subS N W0 = nx := ⟨_, rfl⟩
                          rw [hnx] at hsub
                          subst hsub
                          have HHI : Hid (el hs i = (x0, x1, W0, cs)) := by show _ = _; rw [HHI.out, hnx]
                          have HCL := hidP hcs.out.1
                          have HLS : Hid (hpL hs L (i + 1) = addG (hpL hs L i) cs) := by show _ = _; rw [hpL, HHI.out]
                          have HAS : Hid (hpA hs L (i + 1) = hpA hs L i ++ [arcG (hpL hs L i) (x0, x1, W0, cs)]) := by show _ = _; rw [hpA, HHI.out]
                          have HAL := hidP (hpA_len hs L i)
                          have hl60 := hpL_len hq60 hF.out
                          have hnd := HND.out i
                          obtain ⟨jx, hAX, hOL, hNE⟩ := fnd_arc hnd cs x0 x1 W0
                          rw [hAX] at HAS
                          have HOL := hidP hOL
                          have HNE := hidP hNE
                          clear hnx hcs HNL HNN HN0 HW0 hAX hOL hNE hnd
                          obtain ⟨Li, hLi⟩ : ∃ Li, hpL hs L i = Li := ⟨_, rfl⟩
                          obtain ⟨Ai, hAi⟩ : ∃ Ai, hpA hs L i = Ai := ⟨_, rfl⟩
                          rw [hLi] at E11 HLS HOL HNE hl60
                          rw [hAi] at E11 HAS HAL
                          clear hLi hAi
                          obtain ⟨al, cl, hvl⟩ := E11.out.grid.sl
                          subst hvl
                          have PKD := hidP (And.intro HX (And.intro HR (And.intro HM (And.intro HN (And.intro HSL (And.intro HB7 (And.intro HND (And.intro HNXT (And.intro HFUL (And.intro HOVR (And.intro HGQ (And.intro HTW (And.intro HHE (And.intro HLH (And.intro HNP (And.intro hF (And.intro HSQ (And.intro HPO (And.intro HHI (And.intro C0 (And.intro C1 (And.intro HAS (And.intro HAL (HLS))))))))))))))))))))))))
                          clear HX HR HM HN HSL HB7 HND HNXT HFUL HOVR HGQ HTW HHE HLH HNP hF HSQ HPO HHI C0 C1 HAS HAL HLS
                          go_wp2
                          go_loopw [24, 25] (fun s24 s25 wr => ∃ k : Nat, s24 = .int .i64 (fndG Li cs k) ∧ s25 = .int .i64 (k : Int) ∧ k ≤ Li.length ∧ Hid (Blk wr g (cs.map (Value.int .i64)).toArray 3) ∧ Hid (CerIn w5 w7 wr r0 (w.heap.size + 2) j Sb f va Ai (.slice al Li.length cl) gs5 Li)) (fun _ s25 _ => Li.length - (intOf s25).toNat)
                          case atStart => exact ⟨0, rfl, rfl, Nat.zero_le _, B11, E11⟩
                          case round =>
                            clear B11 E11
                            obtain ⟨k, rfl, rfl, hk, B12, E12⟩ := hrel
                            obtain ⟨w12, hw12⟩ : ∃ w12, w12 = wr := ⟨_, rfl⟩
                            subst hw12
                            by_cases hkl : k < Li.length
                            · as_aux_lemma =>
                              obtain ⟨G9, cG9, hv9, _, _, hc9⟩ := E12.out.grid.cells (by omega)
                              obtain ⟨rfl, rfl⟩ : al = some ⟨G9, 0, none⟩ ∧ cl = cG9 := by simpa using hv9
                              have t0 := hc9 k hkl
                              have k0 : (0 : Int) ≤ (k : Int) := Int.natCast_nonneg _
                              have k1 : (k : Int) < ((Li.length : Nat) : Int) := by omega
                              obtain ⟨_, hrk, hbk⟩ := E12.out.grid.2.2.1 k (by rw [E12.out.grid.1]; exact hkl)
                              have HSM := hidP (fun r hr => sameCosts_any (.slice (some ⟨el gs5 k, 0, none⟩) j j) (.slice (some ⟨g, 0, none⟩) j j) (el Li k) cs w12 (by have h9 := nums_block (cap := j) hbk; rw [hrk] at h9; exact h9) (by have h9 := nums_block (cap := j) B12.out; rw [HCL.out] at h9; exact h9) (by rw [hrk, HCL.out]) (by rw [hrk]; omega) r hr)
                              have HFN : Hid (fndG Li cs (k + 1) = if el Li k = cs then (k : Int) else fndG Li cs k) := rfl
                              clear hv9 hc9 hrk hbk
                              by_cases hek : el Li k = cs
                              · have HSM := hidP (HSM.out true (by rw [hek]; simp))
                                rw [if_pos hek] at HFN
                                clear hek
                                go_wp2_with (first
                                  | (go_at_call 22; (with_reducible refine HSM.out.mono ?_); rintro e w13 ⟨rfl, hb13⟩; have E13 := hidP (E12.out.later hb13); have B13 := hidP (B12.out.below hb13 B12.out.lt); clear hb13))
                                go_roundw
                                case rel => exact ⟨k + 1, by rw [HFN.out], by go_num, by omega, B13, E13⟩
                                case measure => simp [intOf]; omega
                              · have HSM := hidP (HSM.out false (by simpa using hek))
                                rw [if_neg hek] at HFN
                                clear hek
                                go_wp2_with (first
                                  | (go_at_call 22; (with_reducible refine HSM.out.mono ?_); rintro e w13 ⟨rfl, hb13⟩; have E13 := hidP (E12.out.later hb13); have B13 := hidP (B12.out.below hb13 B12.out.lt); clear hb13))
                                go_roundw
                                case rel => exact ⟨k + 1, by rw [HFN.out], by go_num, by omega, B13, E13⟩
                                case measure => simp [intOf]; omega
                            · have hnk : ¬ (k : Int) < ((Li.length : Nat) : Int) := by omega
                              obtain rfl : k = Li.length := by omega
                              obtain ⟨L2, hL2⟩ : ∃ L2, addG Li cs = L2 := ⟨_, rfl⟩
                              have HL2 := hidP hL2
                              clear hL2
                              go_upto_if 189 with fail
                              go_cut [9, 24] (fun s9 s24 wx => ∃ (a9 : Option Addr) (c9 : Nat) (gs9 : List Nat), s9 = .slice a9 L2.length c9 ∧ s24 = .int .i64 (jx : Int) ∧ Hid (CerIn w5 w7 wx r0 (w.heap.size + 2) j Sb f va Ai (.slice a9 L2.length c9) gs9 L2))
                              case first =>
                                as_aux_lemma =>
                                by_cases hmem : cs ∈ Li
                                · obtain ⟨h1, h2⟩ := HOL.out hmem
                                  have HLX : Hid (Li = L2) := by show _ = _; rw [← HL2.out, h2]
                                  rw [h1]
                                  have hj0 : ¬ (jx : Int) < 0 := by omega
                                  clear hmem h1 h2
                                  go_wp2
                                  go_meet
                                  case rel => exact ⟨al, cl, gs5, by rw [HLX.out], rfl, by rw [← HLX.out]; exact E12⟩
                                · obtain ⟨h1, h2, h3⟩ := HNE.out hmem
                                  rw [h1]
                                  have HLX : Hid (Li ++ [cs] = L2) := by show _ = _; rw [← HL2.out, h2]
                                  have HJL : Hid (Li.length = jx) := h3.symm
                                  obtain ⟨v9, w9, r9, hE9⟩ := E12.out.pushG B12.out HCL.out (by have := E12.out.s67; rw [← HSB.out] at this; omega) HGN.out (by omega) (by rw [← HSB.out]; omega)
                                  have HR9 := hidP r9
                                  obtain ⟨a9, c9, hv9⟩ := hE9.grid.sl
                                  rw [HLX.out] at hv9 hE9
                                  subst hv9
                                  have E9 := hidP hE9
                                  clear r9 hE9 hmem h1 h2 h3
                                  go_wp2_with (first | (at_builtin; refine wpListAppendRun rfl _ _ 57 rfl rfl rfl HR9.out ?_))
                                  go_meet
                                  case rel => exact ⟨a9, c9, _, rfl, by rw [HJL.out], E9⟩
                              case rest =>
                                obtain ⟨a9, c9, gs9, rfl, rfl, E9⟩ := hcut
                                obtain ⟨w9, hw9⟩ : ∃ w9, w9 = wc := ⟨_, rfl⟩
                                subst hw9
                                clear E12 B12 HOL HNE
                                obtain ⟨HX, HR, HM, HN, HSL, HB7, HND, HNXT, HFUL, HOVR, HGQ, HTW, HHE, HLH, HNP, hF, HSQ, HPO, HHI, C0, C1, HAS, HAL, HLS⟩ := PKD.out
                                clear PKD
                                rw [HL2.out] at HLS
                                clear HL2
                                have hni := fine_n hn4 hF.out
                                by_cases hfl : 400 < ac + (i + 1) ∨ 60 < L2.length
                                · have T9 := hidP (HTW.out _ _ _ _ E9.out.grow E9.out.grid)
                                  have HXE : Hid (X = ((0, []), 5)) := by have h9 := HFUL.out i (by rw [HLH.out]; exact hil) hF.out (by rw [HHI.out]; simp only; omega) (by rw [HLS.out]; exact hfl); rw [HX.out] at h9; exact h9
                                  have e0 := T9.out.bxR.cell 0 (v := .int .i64 0) rfl
                                  have e1 := T9.out.bxR.cell 1 (v := .slice none 0 0) rfl
                                  have g0 := T9.out.bxR.fz 0
                                  have g1 := T9.out.bxR.fz 1
                                  by_cases hf4 : 400 < ac + (i + 1)
                                  · as_aux_lemma =>
                                    have hflz : (400 : Int) < (ac : Int) + (i : Int) + 1 := by omega
                                    clear hfl hf4
                                    repeat (first | go_skip | go_guarded | go_step | go_upon)
                                    exact bodyPost_ret (res_cer _ _ (w.heap.size + 1) 5 _ _ ((T9.out.bxR.set 0 (.int .i64 0)).set 1 (.slice none 0 0)) rfl rfl) rfl ⟨_, by rw [HXE.out], by rw [HXE.out]; exact mach_zeroR _, (T9.out.below.setCell (p := ⟨w.heap.size + 1, 0, none⟩) (by show w.heap.size ≤ w.heap.size + 1; omega) _).setCell (p := ⟨w.heap.size + 1, 1, none⟩) (by show w.heap.size ≤ w.heap.size + 1; omega) _⟩
                                  · as_aux_lemma =>
                                    have hflz : ¬ (400 : Int) < (ac : Int) + (i : Int) + 1 := by omega
                                    have hfld : decide ((400 : Int) < (ac : Int) + (i : Int) + 1) = false := decide_eq_false hflz
                                    have hl6z : (60 : Int) < ((L2.length : Nat) : Int) := by omega
                                    clear hfl hf4
                                    repeat (first | go_skip | go_guarded | go_step | go_upon)
                                    exact bodyPost_ret (res_cer _ _ (w.heap.size + 1) 5 _ _ ((T9.out.bxR.set 0 (.int .i64 0)).set 1 (.slice none 0 0)) rfl rfl) rfl ⟨_, by rw [HXE.out], by rw [HXE.out]; exact mach_zeroR _, (T9.out.below.setCell (p := ⟨w.heap.size + 1, 0, none⟩) (by show w.heap.size ≤ w.heap.size + 1; omega) _).setCell (p := ⟨w.heap.size + 1, 1, none⟩) (by show w.heap.size ≤ w.heap.size + 1; omega) _⟩
                                · as_aux_lemma =>
                                  have hflz : ¬ (400 : Int) < (ac : Int) + (i : Int) + 1 := by omega
                                  have hfld : decide ((400 : Int) < (ac : Int) + (i : Int) + 1) = false := decide_eq_false hflz
                                  have hl6z : ¬ (60 : Int) < ((L2.length : Nat) : Int) := by omega
                                  have HF2 : Hid (Fine hs L ac (i + 1)) := fine_step hF.out (by rw [HHI.out]; simp only; omega) (by omega) (by rw [HLS.out]; omega)
                                  clear hfl HX HR HM HN HSL HB7 HND HNXT HFUL HOVR HGQ HTW HHE HLH HNP hF HSQ HPO HHI HSB
                                  go_wp2
                                  have f0 := E9.out.drew.cell hSw hPlt hSn C0.out
                                  have f1 := E9.out.drew.cell hSw hPlt hSn C1.out
                                  obtain ⟨v10, w10, r10, hg10, hs10, hE10⟩ := E9.out.drew.pushA (x0, x1, W0, (jx : Int)) (by rw [HAL.out]; omega)
                                  obtain ⟨a10, n10, c10, hv10⟩ := slThreeY hE10.arcs.sl
                                  subst hv10
                                  have HE10 := hidP hE10
                                  have b9l : (Below w9.drew.heap.size w9.drew (w9.drew.alloc (.cells #[.int .i64 x0, .int .i64 x1, .int .i64 W0, .int .i64 (jx : Int)] 63))) := (Below.refl _ _).alloc (Nat.le_refl _) _
                                  have B9 := hidP (E9.out.drew.later b9l)
                                  have K1 : HeldYb Sb va bP (i * 4) x0 x1 w9.drew := ⟨E9.out.drew.sb.cell 1 rfl, f0, f1⟩
                                  have K2 : HeldYb Sb va bP (i * 4) x0 x1 (w9.drew.alloc (.cells #[.int .i64 x0, .int .i64 x1, .int .i64 W0, .int .i64 (jx : Int)] 63)) := ⟨B9.out.sb.cell 1 rfl, B9.out.cell hSw hPlt hSn C0.out, B9.out.cell hSw hPlt hSn C1.out⟩
                                  have K3 : HeldYb Sb va bP (i * 4) x0 x1 w10 := ⟨hs10.cell 1 rfl, by rw [← C0.out]; simp only [World.cell?]; rw [hg10 bP hSw hPlt hSn], by rw [← C1.out]; simp only [World.cell?]; rw [hg10 bP hSw hPlt hSn]⟩
                                  have y1 := hs10.cell 1 (v := va) rfl
                                  have y2 := hs10.fz 1
                                  simp only [encA] at r10
                                  have HR10 := hidP r10
                                  clear r10 hE10 f0 f1 b9l B9 hg10
                                  refine region_anyL (HeldYb Sb va bP (i * 4) x0 x1) 18 (by kernel_rfl) ?_
                                  refine anyL_take (i := 0) (v := ?v0_13) at0 (by kernel_rfl) (by kernel_rfl) (by kernel_rfl) (by kernel_rfl) (fun _ _ _ h => h) rfl ?y0_13 K1 ?r0_13
                                  case y0_13 => intro wx hx; obtain ⟨h1, h2, h3⟩ := hx; go_simp; try (with_reducible rfl)
                                  simp only [Act.put, List.setIfInBounds_toArray, List.set_cons_zero, List.set_cons_succ]
                                  refine anyL_take (i := 1) (v := ?v1_14) (atS at0) (by kernel_rfl) (by kernel_rfl) (by kernel_rfl) (by kernel_rfl) (fun _ _ _ h => h) rfl ?y1_14 K1 ?r1_14
                                  case y1_14 => intro wx hx; obtain ⟨h1, h2, h3⟩ := hx; go_simp; try (with_reducible rfl)
                                  simp only [Act.put, List.setIfInBounds_toArray, List.set_cons_zero, List.set_cons_succ]
                                  refine anyL_take (i := 2) (v := ?v2_15) (atS (atS at0)) (by kernel_rfl) (by kernel_rfl) (by kernel_rfl) (by kernel_rfl) (fun _ _ _ h => h) rfl ?y2_15 K1 ?r2_15
                                  case y2_15 => intro wx hx; obtain ⟨h1, h2, h3⟩ := hx; go_simp; try (with_reducible rfl)
                                  simp only [Act.put, List.setIfInBounds_toArray, List.set_cons_zero, List.set_cons_succ]
                                  refine anyL_take (i := 3) (v := ?v3_16) (atS (atS (atS at0))) (by kernel_rfl) (by kernel_rfl) (by kernel_rfl) (by kernel_rfl) (fun _ _ _ h => h) rfl ?y3_16 K1 ?r3_16
                                  case y3_16 => intro wx hx; obtain ⟨h1, h2, h3⟩ := hx; go_simp; try (with_reducible rfl)
                                  simp only [Act.put, List.setIfInBounds_toArray, List.set_cons_zero, List.set_cons_succ]
                                  refine anyL_take (i := 4) (v := ?v4_17) (atS (atS (atS (atS at0)))) (by kernel_rfl) (by kernel_rfl) (by kernel_rfl) (by kernel_rfl) (fun _ _ _ h => h) rfl ?y4_17 K1 ?r4_17
                                  case y4_17 => intro wx hx; obtain ⟨h1, h2, h3⟩ := hx; go_simp; try (with_reducible rfl)
                                  simp only [Act.put, List.setIfInBounds_toArray, List.set_cons_zero, List.set_cons_succ]
                                  refine anyL_take (i := 5) (v := ?v5_18) (atS (atS (atS (atS (atS at0))))) (by kernel_rfl) (by kernel_rfl) (by kernel_rfl) (by kernel_rfl) (fun _ _ _ h => h) rfl ?y5_18 K1 ?r5_18
                                  case y5_18 => intro wx hx; obtain ⟨h1, h2, h3⟩ := hx; go_simp; try (with_reducible rfl)
                                  simp only [Act.put, List.setIfInBounds_toArray, List.set_cons_zero, List.set_cons_succ]
                                  refine anyL_take (i := 6) (v := ?v6_19) (atS (atS (atS (atS (atS (atS at0)))))) (by kernel_rfl) (by kernel_rfl) (by kernel_rfl) (by kernel_rfl) (fun _ _ _ h => h) rfl ?y6_19 K1 ?r6_19
                                  case y6_19 => intro wx hx; obtain ⟨h1, h2, h3⟩ := hx; go_simp; try (with_reducible rfl)
                                  simp only [Act.put, List.setIfInBounds_toArray, List.set_cons_zero, List.set_cons_succ]
                                  refine anyL_take (i := 7) (v := ?v7_20) (atS (atS (atS (atS (atS (atS (atS at0))))))) (by kernel_rfl) (by kernel_rfl) (by kernel_rfl) (by kernel_rfl) (fun _ _ _ h => h) rfl ?y7_20 K1 ?r7_20
                                  case y7_20 => intro wx hx; obtain ⟨h1, h2, h3⟩ := hx; go_simp; try (with_reducible rfl)
                                  simp only [Act.put, List.setIfInBounds_toArray, List.set_cons_zero, List.set_cons_succ]
                                  refine anyL_take (i := 8) (v := ?v8_21) (atS (atS (atS (atS (atS (atS (atS (atS at0)))))))) (by kernel_rfl) (by kernel_rfl) (by kernel_rfl) (by kernel_rfl) (fun _ _ _ h => h) rfl ?y8_21 K1 ?r8_21
                                  case y8_21 => intro wx hx; obtain ⟨h1, h2, h3⟩ := hx; go_simp; try (with_reducible rfl)
                                  simp only [Act.put, List.setIfInBounds_toArray, List.set_cons_zero, List.set_cons_succ]
                                  refine anyL_take (i := 9) (v := ?v9_22) (atS (atS (atS (atS (atS (atS (atS (atS (atS at0))))))))) (by kernel_rfl) (by kernel_rfl) (by kernel_rfl) (by kernel_rfl) (fun _ _ _ h => h) rfl ?y9_22 K1 ?r9_22
                                  case y9_22 => intro wx hx; obtain ⟨h1, h2, h3⟩ := hx; go_simp; try (with_reducible rfl)
                                  simp only [Act.put, List.setIfInBounds_toArray, List.set_cons_zero, List.set_cons_succ]
                                  refine anyL_take (i := 10) (v := ?v10_23) (atS (atS (atS (atS (atS (atS (atS (atS (atS (atS at0)))))))))) (by kernel_rfl) (by kernel_rfl) (by kernel_rfl) (by kernel_rfl) (fun _ _ _ h => h) rfl ?y10_23 K1 ?r10_23
                                  case y10_23 => intro wx hx; obtain ⟨h1, h2, h3⟩ := hx; go_simp; try (with_reducible rfl)
                                  simp only [Act.put, List.setIfInBounds_toArray, List.set_cons_zero, List.set_cons_succ]
                                  refine anyL_take (i := 11) (v := ?v11_24) (atS (atS (atS (atS (atS (atS (atS (atS (atS (atS (atS at0))))))))))) (by kernel_rfl) (by kernel_rfl) (by kernel_rfl) (by kernel_rfl) (fun _ _ _ h => h) rfl ?y11_24 K1 ?r11_24
                                  case y11_24 => intro wx hx; obtain ⟨h1, h2, h3⟩ := hx; go_simp; try (with_reducible rfl)
                                  simp only [Act.put, List.setIfInBounds_toArray, List.set_cons_zero, List.set_cons_succ]
                                  refine anyL_take (i := 12) (v := ?v12_25) (atS (atS (atS (atS (atS (atS (atS (atS (atS (atS (atS (atS at0)))))))))))) (by kernel_rfl) (by kernel_rfl) (by kernel_rfl) (by kernel_rfl) (fun _ _ _ h => h) rfl ?y12_25 K1 ?r12_25
                                  case y12_25 => intro wx hx; obtain ⟨h1, h2, h3⟩ := hx; go_simp; try (with_reducible rfl)
                                  simp only [Act.put, List.setIfInBounds_toArray, List.set_cons_zero, List.set_cons_succ]
                                  refine anyL_take (i := 13) (v := ?v13_26) (atS (atS (atS (atS (atS (atS (atS (atS (atS (atS (atS (atS (atS at0))))))))))))) (by kernel_rfl) (by kernel_rfl) (by kernel_rfl) (by kernel_rfl) (fun _ _ _ h => h) rfl ?y13_26 K1 ?r13_26
                                  case y13_26 => intro wx hx; obtain ⟨h1, h2, h3⟩ := hx; go_simp; try (with_reducible rfl)
                                  simp only [Act.put, List.setIfInBounds_toArray, List.set_cons_zero, List.set_cons_succ]
                                  refine anyL_take (i := 14) (v := ?v14_27) (atS (atS (atS (atS (atS (atS (atS (atS (atS (atS (atS (atS (atS (atS at0)))))))))))))) (by kernel_rfl) (by kernel_rfl) (by kernel_rfl) (by kernel_rfl) (fun _ _ _ h => h) rfl ?y14_27 K1 ?r14_27
                                  case y14_27 => intro wx hx; obtain ⟨h1, h2, h3⟩ := hx; go_simp; try (with_reducible rfl)
                                  simp only [Act.put, List.setIfInBounds_toArray, List.set_cons_zero, List.set_cons_succ]
                                  refine anyL_one (i := 15) (atS (atS (atS (atS (atS (atS (atS (atS (atS (atS (atS (atS (atS (atS (atS at0))))))))))))))) (by kernel_rfl) rfl (fun K hK => ?_)
                                  go_simp
                                  refine hK _ _ (.inr K2) ?_
                                  try simp only [Act.put, List.setIfInBounds_toArray, List.set_cons_zero, List.set_cons_succ]
                                  refine anyL_one (i := 16) (atS (atS (atS (atS (atS (atS (atS (atS (atS (atS (atS (atS (atS (atS (atS (atS at0)))))))))))))))) (by kernel_rfl) rfl (fun K hK => ?_)
                                  refine wp_append_run (.tmp 207) (.tmp 221) 44 rfl rfl rfl HR10.out ?_
                                  refine hK _ _ (.inr K3) ?_
                                  try simp only [Act.put, List.setIfInBounds_toArray, List.set_cons_zero, List.set_cons_succ]
                                  refine anyL_take (i := 17) (v := ?v17_28) (atS (atS (atS (atS (atS (atS (atS (atS (atS (atS (atS (atS (atS (atS (atS (atS (atS at0))))))))))))))))) (by kernel_rfl) (by kernel_rfl) (by kernel_rfl) (by kernel_rfl) (fun _ _ _ h => h) rfl ?y17_28 K3 ?r17_28
                                  case y17_28 => intro wx hx; obtain ⟨h1, h2, h3⟩ := hx; go_simp; try (with_reducible rfl)
                                  simp only [Act.put, List.setIfInBounds_toArray, List.set_cons_zero, List.set_cons_succ]
                                  refine anyL_one (i := 18) (atS (atS (atS (atS (atS (atS (atS (atS (atS (atS (atS (atS (atS (atS (atS (atS (atS (atS at0)))))))))))))))))) (by kernel_rfl) rfl (fun K hK => ?_)
                                  go_simp
                                  refine hK _ _ (.inl rfl) (anyL_done (by kernel_rfl) (NoPanic.normal ?_))
                                  try simp only [Act.put, List.setIfInBounds_toArray, List.set_cons_zero, List.set_cons_succ]
                                  clear K1 K2 K3 y1 y2 HR10
                                  go_wp2
                                  go_roundw
                                  case rel => exact ⟨i + 1, _, _, _, rfl, by go_num, by go_num, by omega, HF2, by rw [HAS.out, HLS.out]; exact HE10⟩
                                  case measure => simp [intOf]; omega
                  · obtain rfl : i = nP := by omega
                    have hnl : ¬ (i : Int) < ((i : Nat) : Int) := by omega
                    have T9 := hidP (HTW.out _ _ _ _ hE.out.grow hE.out.grid)
                    have s8 : w.heap.size + 2 ≤ w8.heap.size := by have := hE.out.grow.size; rw [← HSB.out] at this; omega
                    have HNX : Hid (NumI (finC l) (hopsC l) (iniS p zn) (q + 1) (hpL hs L i) (S ++ [(f, hpA hs L i)]) (ac + i)) := by have h9 := HNXT.out; rw [HLH.out] at h9; exact h9 hF.out
                    obtain ⟨v11, w11, r11, hM11, hT11⟩ := T9.out.push (f, hpA hs L i) (OwnArcs.mono hE.out.arcs (by have := hE.out.s67; rw [← HSB.out] at this; omega)) (by rw [HSL.out]; omega) s8
                    simp only at r11
                    have HR11 := hidP r11
                    obtain ⟨a11, n11, c11, hv11⟩ := slThreeY hT11.sts.sts.sl
                    subst hv11
                    have HT11 := hidP hT11
                    have m1 := T9.out.bxM.cell 1 (v := vm) rfl
                    have b0 := hE.out.sb.cell 0 (v := .int .i64 f) rfl
                    have b1 := hE.out.sb.cell 1 (v := va) rfl
                    have m2 := hM11.cell 1 (v := vm) rfl
                    have m3 := hM11.fz 1
                    clear r11 hT11
                    go_wp2_with (first | (at_builtin; refine wpListAppendRun rfl _ _ 22 rfl rfl rfl HR11.out ?_))
                    go_roundw
                    case rel => exact ⟨q + 1, ac + i, _, _, _, _, _, rfl, by go_num, by go_num, HNX, HT11⟩
                    case measure => simp [intOf]; omega
              · have hne : (ec != 0) = true := bne_iff_ne.2 hz0
                have HXE : Hid (X = ((0, []), ec)) := by have h9 := HERR.out (by rw [HE2.out]; exact hz0); rw [HE2.out, HX.out] at h9; exact h9
                have e0 := hT.out.bxR.cell 0 (v := .int .i64 0) rfl
                have e1 := hT.out.bxR.cell 1 (v := .slice none 0 0) rfl
                have g0 := hT.out.bxR.fz 0
                have g1 := hT.out.bxR.fz 1
                repeat (first | go_skip | go_guarded | go_step | go_upon)
                with_reducible refine (HTD.out _).mono ?_
                rintro e w99 ⟨rfl, hw9⟩
                subst hw9
                go_simp
                repeat (first | go_skip | go_guarded | go_step | go_upon)
                exact bodyPost_ret (res_cer _ _ (w.heap.size + 1) ec _ _ ((hT.out.bxR.set 0 (.int .i64 0)).set 1 (.slice none 0 0)) rfl rfl) rfl ⟨_, by rw [HXE.out], by rw [HXE.out]; exact mach_zeroR _, (hT.out.below.setCell (p := ⟨w.heap.size + 1, 0, none⟩) (by show w.heap.size ≤ w.heap.size + 1; omega) _).setCell (p := ⟨w.heap.size + 1, 1, none⟩) (by show w.heap.size ≤ w.heap.size + 1; omega) _⟩
        · obtain ⟨al, cl, hvl⟩ := hT.out.grid.sl
          subst hvl
          have hnl : ¬ (q : Int) < ((L.length : Nat) : Int) := by omega
          have HXE : Hid (X = ((0, S), 0)) := by have h9 := hI.out.stop hlt; rw [HX.out] at h9; exact h9
          obtain ⟨am, cm, hvm⟩ := hT.out.sts.sts.sl
          subst hvm
          have m0 := hT.out.bxM.cell 0 (v := .int .i64 0) rfl
          have m1 := hT.out.bxM.cell 1 (v := .slice am S.length cm) rfl
          have e0 := hT.out.bxR.cell 0 (v := .int .i64 0) rfl
          have e1 := hT.out.bxR.cell 1 (v := .slice none 0 0) rfl
          have g0 := hT.out.bxR.fz 0
          have g1 := hT.out.bxR.fz 1
          repeat (first | go_skip | go_guarded | go_step | go_upon)
          refine bodyPost_ret (res_cer _ _ (w.heap.size + 1) 0 _ _ ((hT.out.bxR.set 0 (.int .i64 0)).set 1 (.slice am S.length cm)) rfl rfl) rfl ⟨_, by rw [HXE.out], ?_, (hT.out.below.setCell (p := ⟨w.heap.size + 1, 0, none⟩) (by show w.heap.size ≤ w.heap.size + 1; omega) _).setCell (p := ⟨w.heap.size + 1, 1, none⟩) (by show w.heap.size ≤ w.heap.size + 1; omega) _⟩
          rw [HXE.out]
          exact ⟨_, rfl, ((hT.out.sts.setM hT.out.bxR 0 _).setM (hT.out.bxR.set 0 _) 1 _).sts⟩
end Go.Proofs.YtfekmlblldhieaaDoor.Wt
