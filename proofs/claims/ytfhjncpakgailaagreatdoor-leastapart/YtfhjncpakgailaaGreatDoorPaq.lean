/- Making certain as the program does: sets numbered as lists of parts (no program in sight). -/
import Derived.Test.YtfhjncpakgailaaGreatDoorPam
import Derived.Test.YtfhjncpakgailaaGreatDoorPap
import Derived.Test.YtfhjncpakgailaaGreatDoorPak
import Derived.Test.YtfhjncpakgailaaGreatDoorPal
import Derived.Test.YtfhjncpakgailaaGreatDoorPao
namespace Go.Proofs.YtfhjncpakgailaaGreatDoor.Pl
set_option linter.unusedVariables false
set_option linter.unusedSimpArgs false
theorem par_mem {n : Nat} {L : List (List Int)} {R : List Int} (hL : ∀ T ∈ L, T.length = n) (hR : R.length = n) : parL R ∈ L.map parL ↔ R ∈ L := by
 constructor
 ·intro h
  obtain ⟨T, hT, e⟩ := List.mem_map.1 h
  have := parL_inj ((hL T hT).trans hR.symm) e
  rwa [← this]
 ·exact fun h => List.mem_map.2 ⟨R, h, rfl⟩
theorem addG_par {n : Nat} {L : List (List Int)} {R : List Int} (hL : ∀ T ∈ L, T.length = n) (hR : R.length = n) : addG (L.map parL) (parL R) = (addG L R).map parL := by
 unfold addG
 by_cases h : R ∈ L
 ·rw [if_pos h, if_pos ((par_mem hL hR).2 h)]
 ·rw [if_neg h, if_neg (fun g => h ((par_mem hL hR).1 g)), List.map_append]
  rfl
theorem nodup_par {n : Nat} {L : List (List Int)} (hL : ∀ T ∈ L, T.length = n) (hN : L.Nodup) : (L.map parL).Nodup := by
 rw [List.nodup_iff_pairwise_ne, List.pairwise_map]
 exact hN.imp_of_mem fun {x y} hx hy hxy e => hxy (parL_inj ((hL x hx).trans (hL y hy).symm) e)
theorem arcG_par {n : Nat} {L : List (List Int)} {R : List Int} (hL : ∀ T ∈ L, T.length = n) (hR : R.length = n) (hN : L.Nodup) {jx : Nat} (h1 : parL R ∈ L.map parL → jx < (L.map parL).length ∧ el (L.map parL) jx = parL R) (h2 : parL R ∉ L.map parL → jx = (L.map parL).length) (x0 x1 c : Int) : arcG L (x0, x1, c, R) = (x0, x1, c, (jx : Int)) := by
 unfold arcG
 simp only
 by_cases h : R ∈ L
 ·obtain ⟨g1, g2⟩ := h1 ((par_mem hL hR).2 h)
  rw [List.length_map] at g1
  rw [el_map g1] at g2
  have e := parL_inj ((hL _ (el_mem g1)).trans hR.symm) g2
  have h9 := idxG_el hN g1
  rw [e] at h9
  rw [h9]
 ·have g1 := h2 (fun g => h ((par_mem hL hR).1 g))
  rw [List.length_map] at g1
  rw [idxG_new h, g1]
theorem hops_good {m : Mc} {T : List Int} (hf : faultM m = 0) (hT : SetN m.2.length 60000000000 T) {i : Nat} (hi : i < (hopsC m.2 T).length) : SetN m.2.length 100000000000 (el (hopsC m.2 T) i).2.2.2 ∧ 0 ≤ (el (hopsC m.2 T) i).2.2.1 ∧ (el (hopsC m.2 T) i).2.2.1 ≤ 100000000000 := by
 have hi' : i < (prsL m.2 T).length := by unfold hopsC at hi; rwa [List.length_map] at hi
 have e : el (hopsC m.2 T) i = hopC m.2 T (el (prsL m.2 T) i) := by unfold hopsC; rw [el_map hi']
 rw [e]
 have h1 := hop_facts hf hT (W := 1000000000) (fun q a ha => (arc_low hf (el_in ha) ha).2.1) (by unfold noneI; omega) (el_mem hi')
 exact ⟨h1.2.2.1.mono (by omega), h1.1, by have := h1.2.1; omega⟩
theorem hpL_good {P : List Int → Prop} {hs : List (Hg (List Int))} {L : List (List Int)} (h1 : ∀ T ∈ L, P T) (h2 : ∀ i, i < hs.length → P (el hs i).2.2.2) : ∀ i, i ≤ hs.length → ∀ T ∈ hpL hs L i, P T
  | 0, _ => h1
  | i + 1, hi => fun T hT => by
    have e : hpL hs L (i + 1) = addG (hpL hs L i) (el hs i).2.2.2 := rfl
    rw [e] at hT
    unfold addG at hT
    split at hT
    · exact hpL_good h1 h2 i (by omega) T hT
    · rcases List.mem_append.1 hT with g | g
      · exact hpL_good h1 h2 i (by omega) T g
      · rw [List.mem_singleton] at g
        rw [g]
        exact h2 i (by omega)
theorem arcW_pos {m : Mc} {T : List Int} (hf : faultM m = 0) (hT : SetN m.2.length 60000000000 T) : ∀ a ∈ sortL (arcW m.2 (parL T)), 0 ≤ a.2.2.1 ∧ a.2.2.1 ≤ 2000000000000 := fun a ha => by
 rw [(sortL_perm _).mem_iff, mem_arcW] at ha
 obtain ⟨q, hq, h1, b, hb, rfl⟩ := ha
 rw [hT.len] at hq
 have h2 := arc_low hf hq hb
 rcases hT.rng q hq with g | g
 ·exact absurd g h1
 ·simp only [wtA]
  omega
theorem sort_leP (l : List Ar) : ∀ i j, i < j → j < (sortL l).length → leP (labA (el (sortL l) i)) (labA (el (sortL l) j)) := fun i j hij hj => by
 have h9 := List.pairwise_iff_getElem.1 (sortL_pair l) i j (by omega) hj hij
 rw [← el_get, ← el_get] at h9
 simp only [leB, Bool.not_eq_true', aheadB_false] at h9
 unfold leP labA
 simp only
 omega
end Go.Proofs.YtfhjncpakgailaaGreatDoor.Pl
namespace Go.Proofs.YtfhjncpakgailaaGreatDoor.Wt
open Go.ChangeShapes Go.WideShapes Go.ChangeAt Go.RowKit Go.Maps
open Go.Proofs.YtfhjncpakgailaaGreatDoor.Pl
set_option linter.unusedVariables false
set_option linter.unusedSimpArgs false
theorem OwnP.setB {w : World} {base : Nat} {v : Value} {ps : List Pa} (h : OwnP w base v ps) {b : Nat} {cs : Array Value} {t : TypeId} (hb : Blk w b cs t) (hi : 84 ≠ t) (o : Nat) (u : Value) : OwnP (w.setCell ⟨b, o, none⟩ u) base v ps := World.ownsRow.kept h (gSet w b o u) (.inr (Ne.symm (own_ne h hb hi)))
set_option maxRecDepth 100000 in
set_option maxHeartbeats 3200000 in
theorem makBegin_any (w0 W : World) (base b : Nat) (a : Option Addr) (np c : Nat) (z : Int) (hB : Blk W b #[.map none, .slice none 0 0, .slice none 0 0, .int .i64 0] 81) (hb : base ≤ b) (hP : OwnP W base (.slice a np c) [(z, 0)]) (hz : 0 ≤ z ∧ z ≤ 100000) (ht : Tab w0) (hb0 : Below w0.heap.size w0 W) (hwb : w0.heap.size ≤ base) :
  Calls Tryz.prog 56 #[.pointer (some ⟨b, 0, none⟩), .slice a np c] W fun e W' => e = .returned (.tuple #[]) ∧ Below base W W' ∧ ∃ mb vt, MakN W' base b mb vt (.slice none 0 0) [[(z, 0)]] 0 := by
 have hbl := hB.lt
 have hmm : (Instr.makeMap 78 none).run Tryz.prog W = .ok (.map (some W.heap.size)) (W.alloc (.map #[] 0)) := by
  simp [Instr.makeMap, run_underlying Tryz.underlying78]
 have c0 := hB.cell 0 (v := .map none) rfl
 have f0 := hB.fz 0
 have sz2 : (W.setCell ⟨b, 0, none⟩ (.map (some W.heap.size))).heap.size = W.heap.size := by simp [World.setCell]
 have m2 := TxM.made (W.setCell ⟨b, 0, none⟩ (.map (some W.heap.size)))
 rw [sz2] at m2
 have hN3 : MakN ((W.setCell ⟨b, 0, none⟩ (.map (some W.heap.size))).alloc (.map #[] 0)) base b W.heap.size (.slice none 0 0) (.slice none 0 0) [] 0 := ⟨(hB.set 0 _).alloc _, m2, SetsM.nil _ _, hb, by omega⟩
 have hB3 : Below base W ((W.setCell ⟨b, 0, none⟩ (.map (some W.heap.size))).alloc (.map #[] 0)) := (((Below.refl _ _).setCell (p := ⟨b, 0, none⟩) hb _).alloc (by rw [sz2]; omega) _)
 have hP3 : OwnP ((W.setCell ⟨b, 0, none⟩ (.map (some W.heap.size))).alloc (.map #[] 0)) base (.slice a np c) [(z, 0)] := (hP.setB hB (by decide) 0 _).later ((Below.refl _ _).alloc (Nat.le_refl _) _)
 have HC := hidP (makNum_any base b W.heap.size _ _ [] 0 a np c [(z, 0)] _ hN3 hP3 (ht.later (hb0.trans (hB3.mono hwb))) (fun p hp => by rw [List.mem_singleton] at hp; subst hp; exact ⟨hz.1, hz.2, by simp, by simp⟩) (by simp) (by simp) (fun qs hq => by cases hq) (by simp) (by simp) (by have h9 := hB3.size; omega))
 have HB3 := hidP hB3
 have HE : Hid (addG [] [(z, (0 : Int))] = [[(z, 0)]]) := rfl
 clear hB m2 hN3 hB3 hP hP3 sz2 ht hb0
 go_enter Tryz.func56, Tryz.ntmps56
 go_wp2_with (first
  | (go_at_call 99; (with_reducible refine HC.out.mono ?_); rintro e w5 ⟨jx, rfl, _, ⟨vt5, h5⟩, hk5, hb5⟩; have H5 := hidP h5; have B5 := hidP hb5; clear h5 hk5 hb5))
 go_end0
 exact ⟨rfl, HB3.out.trans B5.out, W.heap.size, vt5, HE.out ▸ H5.out⟩
def MakQ (b s : Nat) (w w' : World) : Prop := w.heap.size ≤ w'.heap.size ∧ ∀ k cs t, Blk w k cs t → k ≠ b → k ≠ s → t ≠ 86 → Blk w' k cs t
theorem MakQ.refl (b s : Nat) (w : World) : MakQ b s w w := ⟨Nat.le_refl _, fun _ _ _ h _ _ _ => h⟩
theorem MakQ.next {b s : Nat} {w w1 w2 : World} (h : MakQ b s w w1) (k : MakK b w1 w2) : MakQ b s w w2 := ⟨Nat.le_trans h.1 k.1, fun q cs t hb h1 h2 h3 => k.2 q cs t (h.2 q cs t hb h1 h2 h3) h1 h3⟩
theorem MakQ.far {b s : Nat} {W w w' : World} (h : MakQ b s W w) (hs : w.heap.size ≤ w'.heap.size) (hh : ∀ k, k < W.heap.size → k ≠ s → w'.heap[k]? = w.heap[k]?) : MakQ b s W w' :=
 ⟨Nat.le_trans h.1 hs, fun k cs t hb h1 h2 h3 => (h.2 k cs t hb h1 h2 h3).keep (hh k hb.lt h2)⟩
theorem MakQ.row {b sb base : Nat} {w w' : World} {e : TypeId} {s : Nat} {v : Value} {n : Nat} {xs : List Value} (hK : MakQ b sb w w') (ho : w.ownsRow base e s v n xs) (he : e ≠ 86) (hb : some b ≠ v.ownBlock) (hs : some sb ≠ v.ownBlock) : w'.ownsRow base e s v n xs := by
 refine ⟨ho.1, ?_⟩
 rcases ho.2 with hn | ⟨g, cap, cur, rfl, hbg, hgg, rest⟩
 ·exact .inl hn
 ·exact .inr ⟨g, cap, cur, rfl, hbg, hK.2 g cur e hgg (fun e => hb (by simp [Value.ownBlock, e])) (fun e => hs (by simp [Value.ownBlock, e])) he, rest⟩
section
variable {w w' W : World} {base b mb Sb : Nat} {vt vs va : Value} {L : List (List Pa)} {n fin : Int} {ar : List Ar}
theorem MakN.grown (h : MakN w base b mb vt vs L n) {B : Nat} {v : Value} {ar : List Ar} (ho : OwnArcs w B v ar) (hg : w.grownBy w' v.ownBlock) : MakN w' base b mb vt vs L n :=
 ⟨h.blk.grown hg (own_ne ho h.blk (by decide)), h.tr.keep (hg.block _ h.tr.lt (h.tr.neRow ho)), h.trs.kept ho (by decide) (by decide) hg, h.hb, h.hm⟩
theorem MakN.setX (h : MakN w base b mb vt vs L n) {k : Nat} {cs : Array Value} {t : TypeId} (hk : Blk w k cs t) (h1 : 81 ≠ t) (h2 : 86 ≠ t) (h3 : 84 ≠ t) (o : Nat) (v : Value) : MakN (w.setCell ⟨k, o, none⟩ v) base b mb vt vs L n := by
 have hne : b ≠ k := fun e => by
  subst e
  have h4 := h.blk
  unfold Blk at h4 hk
  rw [h4] at hk
  simp only [Option.some.injEq, Obj.cells.injEq] at hk
  exact h1 hk.2.1
 exact ⟨h.blk.setO _ _ hne, h.tr.keep (Below.heap_setCell w ⟨k, o, none⟩ v mb (h.tr.neBlk hk)), h.trs.setB hk h2 h3 o v, h.hb, h.hm⟩
theorem MakN.setN (h : MakN w base b mb vt vs L n) (k : Int) : MakN (w.setCell ⟨b, 3, none⟩ (.int .i64 k)) base b mb vt vs L k :=
 ⟨h.blk.set 3 _, h.tr.keep (Below.heap_setCell w ⟨b, 3, none⟩ _ mb (Ne.symm h.ne)), h.trs.setB h.blk (by decide) (by decide) 3 _, h.hb, h.hm⟩
structure AddJ (W w : World) (base b mb Sb : Nat) (vt vs : Value) (L : List (List Pa)) (n fin : Int) (va : Value) (ar : List Ar) : Prop where
 mak : MakN w base b mb vt vs L n
 keep : MakQ b Sb W w
 below : Below base W w
 sb : Blk w Sb #[.int .i64 fin, va] 56
 arcs : OwnArcs w W.heap.size va ar
 blt : b < W.heap.size
 slt : Sb < W.heap.size
 sge : base ≤ Sb
theorem AddJ.bs (h : AddJ W w base b mb Sb vt vs L n fin va ar) : Sb ≠ b := fun e => by
 have h1 := h.sb
 have h2 := h.mak.blk
 rw [e] at h1
 unfold Blk at h1 h2
 rw [h1] at h2
 exact absurd h2 (by simp)
theorem AddJ.later (h : AddJ W w base b mb Sb vt vs L n fin va ar) (hb : Below w.heap.size w w') : AddJ W w' base b mb Sb vt vs L n fin va ar :=
 ⟨h.mak.later hb, h.keep.next (MakK.of hb), h.below.trans (hb.mono (Nat.le_trans (by have := h.sge; have := h.slt; omega) h.keep.1)), h.sb.below hb h.sb.lt, h.arcs.later hb, h.blt, h.slt, h.sge⟩
theorem AddJ.num (h : AddJ W w base b mb Sb vt vs L n fin va ar) {vt' : Value} {L' : List (List Pa)} (hc : MakN w' base b mb vt' vs L' n) (hk : MakK b w w') (hb : Below base w w') : AddJ W w' base b mb Sb vt' vs L' n fin va ar :=
 ⟨hc, h.keep.next hk, h.below.trans hb, hk.2 _ _ _ h.sb h.bs (by decide), hk.row h.arcs (by decide) (own_ne h.arcs h.mak.blk (by decide)), h.blt, h.slt, h.sge⟩
theorem AddJ.setN (h : AddJ W w base b mb Sb vt vs L n fin va ar) (k : Int) : AddJ W (w.setCell ⟨b, 3, none⟩ (.int .i64 k)) base b mb Sb vt vs L k fin va ar :=
 ⟨h.mak.setN k, h.keep.next MakK.set, h.below.setCell (p := ⟨b, 3, none⟩) h.mak.hb _, h.sb.setO _ _ h.bs, World.ownsRow.kept h.arcs (gSet w b 3 _) (.inr (Ne.symm (own_ne h.arcs h.mak.blk (by decide)))), h.blt, h.slt, h.sge⟩
theorem AddJ.setA (h : AddJ W w base b mb Sb vt vs L n fin va ar) {A : Nat} {cs : Array Value} (hA : W.heap.size ≤ A) (hne : some A ≠ va.ownBlock) (hb : Blk w A cs 58) (o : Nat) (v : Value) : AddJ W (w.setCell ⟨A, o, none⟩ v) base b mb Sb vt vs L n fin va ar := by
 have hs := h.slt
 have hg := h.sge
 exact ⟨h.mak.setX hb (by decide) (by decide) (by decide) o v, h.keep.far (by simp [World.setCell]) (fun k hk _ => Below.heap_setCell w ⟨A, o, none⟩ v k (by show k ≠ A; omega)), h.below.setCell (p := ⟨A, o, none⟩) (by show base ≤ A; omega) _, h.sb.setO _ _ (by show Sb ≠ A; omega), World.ownsRow.kept h.arcs (gSet w A o v) (.inr (Ne.symm hne)), h.blt, h.slt, h.sge⟩
theorem AddJ.push (h : AddJ W w base b mb Sb vt vs L n fin va ar) (c : Ar) (hl : ar.length ≤ 100000) :
  ∃ a k q w', (Builtin.append_ #[54, 54] 54 #[va, .slice (some ⟨w.heap.size, 0, none⟩) 1 1]).run Tryz.prog (w.alloc (.cells #[.int .i64 c.1, .int .i64 c.2.1, .int .i64 c.2.2.1, .int .i64 c.2.2.2] 58)) = .ok (.slice a k q) w' ∧ Blk w' Sb #[.int .i64 fin, va] 56 ∧ AddJ W (w'.setCell ⟨Sb, 1, none⟩ (.slice a k q)) base b mb Sb vt vs L n fin (.slice a k q) (ar ++ [c]) := by
 have hA := h.later ((Below.refl w.heap.size w).alloc (Nat.le_refl _) (.cells (encA c).toArray 58))
 have hz := h.keep.1
 have hsl := h.slt
 have hsg := h.sge
 obtain ⟨v4, w4, r4, hO, hb4, hg4⟩ := h.arcs.pushJ c hl hz
 obtain ⟨a, q, hv⟩ := hO.sl
 subst hv
 have hS : Blk w4 Sb #[.int .i64 fin, va] 56 := hA.sb.grown hg4 (own_ne hA.arcs hA.sb (by decide))
 have hK4 : MakQ b Sb W w4 := hA.keep.far hg4.size (fun k hk _ => hg4.block k (Nat.lt_of_lt_of_le hk hA.keep.1) (fun e => by have := (hA.arcs.lt k e.symm).1; omega))
 have hC4 := hA.mak.grown hA.arcs hg4
 refine ⟨a, _, q, w4, r4, hS, hC4.setX hS (by decide) (by decide) (by decide) 1 _, hK4.far (by simp [World.setCell]) (fun k hk hne => Below.heap_setCell w4 ⟨Sb, 1, none⟩ _ k hne), (h.below.trans (hb4.mono (by omega))).setCell (p := ⟨Sb, 1, none⟩) hsg _, hS.set 1 _, World.ownsRow.kept hO (gSet w4 Sb 1 _) (.inr (Ne.symm (own_ne hO hS (by decide)))), h.blt, h.slt, h.sge⟩
end
def HeldM4 (b : Nat) (vs : Value) (k : Nat) (x : Int) (va : Value) (w : World) : Prop := w.cell? ⟨b, 2, none⟩ = some vs ∧ w.cell? ⟨k, 0, none⟩ = some (.int .i64 x) ∧ w.cell? ⟨k, 1, none⟩ = some va
def AddAns (W : World) (base b mb : Nat) (l : List St) (T : List Int) (L : List (List Int)) (S : List St) (n : Nat) (ec : Int) (W' : World) : Prop :=
 ((finC l T).2 ≠ 0 ∧ ec = (finC l T).2) ∨ ((finC l T).2 = 0 ∧ ((ec = 4 ∧ ∃ i, i < (hopsC l T).length ∧ Fine (hopsC l T) L n i ∧ 1000000000 < (el (hopsC l T) i).2.2.1) ∨ (ec = 5 ∧ ∃ i, i < (hopsC l T).length ∧ Fine (hopsC l T) L n i ∧ (el (hopsC l T) i).2.2.1 ≤ 1000000000 ∧ (400 < n + (i + 1) ∨ 60 < (hpL (hopsC l T) L (i + 1)).length)) ∨
  (ec = 0 ∧ Fine (hopsC l T) L n (hopsC l T).length ∧ ∃ vt vs, MakN W' base b mb vt vs ((hpL (hopsC l T) L (hopsC l T).length).map parL) ((n + (hopsC l T).length : Nat) : Int) ∧ OwnSts W' base vs (S ++ [((finC l T).1, hpA (hopsC l T) L (hopsC l T).length)]))))
theorem LstM.get {w : World} {base : Nat} {a : Option Addr} {n c : Nat} {av : Option Addr} {cap : Nat} {cs : List (Nat × Nat)} (h : LstM w base (.slice a n c) av cap cs) {q : Nat} (hq : q < cs.length) : ∃ G, a = some ⟨G, 0, none⟩ ∧ G < w.heap.size ∧ w.cell? ⟨G, q, none⟩ = some (.slice (slA av cap (el cs q)).1 (slA av cap (el cs q)).2.1 (slA av cap (el cs q)).2.2) := by
 have h2 := h
 rcases h.2 with ⟨_, h0⟩ | ⟨G, cap', cur, hv, hb, hG, _⟩
 ·omega
 ·injection hv with e1 _ _
  refine ⟨G, e1, lt_of_block hG, ?_⟩
  have h9 := World.ownsRow.cells h2 (g := G) (by rw [e1]; rfl) q (slV (slA av cap (el cs q))) (by
   have h3 := flat_at encL_len (cs.map (slA av cap)) q (by rw [List.length_map]; exact hq) 0 (by omega)
   rw [Nat.mul_one, Nat.add_zero] at h3
   rw [h3, el_map hq]; rfl)
  rw [Addr.add_lit, Nat.zero_add] at h9
  exact h9
theorem pie_arcs {w : World} {base : Nat} {a : Option Addr} {n cap : Nat} {l : List Ar} (h : OwnArcs w base (.slice a n cap) l) {c : Nat × Nat} (hc : c.1 + c.2 ≤ l.length) (h0 : 0 < c.2) : Arcs w (.slice (slA a cap c).1 (slA a cap c).2.1 (slA a cap c).2.2) (pieA l c) := by
 rcases h.arcs with ⟨e, he⟩ | ⟨ad, c2, e, hcell⟩
 ·rw [he] at hc
  simp at hc
  omega
 ·injection e with e1 e2 e3
  subst e1
  have hl := pie_len (l := l) hc
  refine .inr ⟨ad.add (c.1 * 4), cap - c.1, by rw [hl]; rfl, fun j hj u v hu => ?_⟩
  rw [hl] at hj
  rw [pie_el hj] at hu
  have h9 := hcell (c.1 + j) (by omega) u v hu
  rw [Addr.add_add]
  rwa [show c.1 * 4 + (j * 4 + u) = (c.1 + j) * 4 + u by omega]
end Go.Proofs.YtfhjncpakgailaaGreatDoor.Wt
