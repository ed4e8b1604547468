/- certain.maker: how it begins; the next state, with an arc for each pair of labels. certain.maker.add: the next state, with an arc for each pair of labels. -/
import Derived.Test.YtfekmlblldhieaaGreatDoorJ17E
import Derived.Test.YtfekmlblldhieaaGreatDoorJ17G
import Derived.Test.YtfekmlblldhieaaGreatDoorJ17F
import Derived.Test.YtfekmlblldhieaaGreatDoorJ17r
import Derived.Test.YtfekmlblldhieaaGreatDoorJ17j
import Derived.Deep.DeepCutAuto
namespace Go.Proofs.YtfekmlblldhieaaGreatDoor.Wt
open Go.ChangeShapes Go.WideShapes Go.ChangeAt Go.RowKit Go.Maps
open Go.Proofs.YtfekmlblldhieaaGreatDoor.Pl
set_option linter.unusedVariables false
set_option linter.unusedSimpArgs false
theorem OwnP.setB {w : World} {base : Nat} {v : Value} {ps : List Pa} (h : OwnP w base v ps) {b : Nat} {cs : Array Value} {t : TypeId} (hb : Blk w b cs t) (hi : 51 ≠ t) (o : Nat) (u : Value) : OwnP (w.setCell ⟨b, o, none⟩ u) base v ps := World.ownsRow.kept h (gSet w b o u) (.inr (Ne.symm (own_ne h hb hi)))
set_option maxRecDepth 100000 in
set_option maxHeartbeats 3200000 in
/-- begin: one set, which is the state 0. -/
theorem makBegin_any (w0 W : World) (base b : Nat) (a : Option Addr) (np c : Nat) (z : Int) (hB : Blk W b #[.map none, .slice none 0 0, .slice none 0 0, .int .i64 0] 48) (hb : base ≤ b) (hP : OwnP W base (.slice a np c) [(z, 0)]) (hz : 0 ≤ z ∧ z ≤ 100000) (ht : Tab w0) (hb0 : Below w0.heap.size w0 W) (hwb : w0.heap.size ≤ base) :
    Calls Tryz.prog 10 #[.pointer (some ⟨b, 0, none⟩), .slice a np c] W fun e W' => e = .returned (.tuple #[]) ∧ Below base W W' ∧ ∃ mb vt, MakN W' base b mb vt (.slice none 0 0) [[(z, 0)]] 0 := by
  have hbl := hB.lt
  have hmm : (Instr.makeMap 45 none).run Tryz.prog W = .ok (.map (some W.heap.size)) (W.alloc (.map #[] 0)) := by
    simp [Instr.makeMap, run_underlying Tryz.underlying45]
  have c0 := hB.cell 0 (v := .map none) rfl
  have f0 := hB.fz 0
  have sz2 : (W.setCell ⟨b, 0, none⟩ (.map (some W.heap.size))).heap.size = W.heap.size := by simp [World.setCell]
  have m2 := TxM.made (W.setCell ⟨b, 0, none⟩ (.map (some W.heap.size)))
  rw [sz2] at m2
  have hN3 : MakN ((W.setCell ⟨b, 0, none⟩ (.map (some W.heap.size))).alloc (.map #[] 0)) base b W.heap.size (.slice none 0 0) (.slice none 0 0) [] 0 := ⟨(hB.set 0 _).alloc _, m2, SetsM.nil _ _, hb, by omega⟩
  have hB3 : Below base W ((W.setCell ⟨b, 0, none⟩ (.map (some W.heap.size))).alloc (.map #[] 0)) := (((Below.refl _ _).setCell (p := ⟨b, 0, none⟩) hb _).alloc (by rw [sz2]; omega) _)
  have hP3 : OwnP ((W.setCell ⟨b, 0, none⟩ (.map (some W.heap.size))).alloc (.map #[] 0)) base (.slice a np c) [(z, 0)] := (hP.setB hB (by decide) 0 _).later ((Below.refl _ _).alloc (Nat.le_refl _) _)
  have HC := hidP (makNum_any base b W.heap.size _ _ [] 0 a np c [(z, 0)] _ hN3 hP3 (ht.later (hb0.trans (hB3.mono hwb))) (fun p hp => by rw [List.mem_singleton] at hp; subst hp; exact ⟨hz.1, hz.2, by simp, by simp⟩) (by simp) (by simp) (fun qs hq => by cases hq) (by simp) (by simp) (by have h9 := hB3.size; omega))
  have HB3 := hidP hB3
  have HE : Hid (addG [] [(z, (0 : Int))] = [[(z, 0)]]) := rfl
  clear hB m2 hN3 hB3 hP hP3 sz2 ht hb0
  go_enter Tryz.func10, Tryz.ntmps10
  go_wp2_with (first
    | (go_at_call 27; (with_reducible refine HC.out.mono ?_); rintro e w5 ⟨jx, rfl, _, ⟨vt5, h5⟩, hk5, hb5⟩; have H5 := hidP h5; have B5 := hidP hb5; clear h5 hk5 hb5))
  go_end0
  exact ⟨rfl, HB3.out.trans B5.out, W.heap.size, vt5, HE.out ▸ H5.out⟩
/-- All blocks but b, s and those of sets are as they were. -/
def MakQ (b s : Nat) (w w' : World) : Prop := w.heap.size ≤ w'.heap.size ∧ ∀ k cs t, Blk w k cs t → k ≠ b → k ≠ s → t ≠ 53 → Blk w' k cs t
theorem MakQ.refl (b s : Nat) (w : World) : MakQ b s w w := ⟨Nat.le_refl _, fun _ _ _ h _ _ _ => h⟩
theorem MakQ.next {b s : Nat} {w w1 w2 : World} (h : MakQ b s w w1) (k : MakK b w1 w2) : MakQ b s w w2 := ⟨Nat.le_trans h.1 k.1, fun q cs t hb h1 h2 h3 => k.2 q cs t (h.2 q cs t hb h1 h2 h3) h1 h3⟩
theorem MakQ.far {b s : Nat} {W w w' : World} (h : MakQ b s W w) (hs : w.heap.size ≤ w'.heap.size) (hh : ∀ k, k < W.heap.size → k ≠ s → w'.heap[k]? = w.heap[k]?) : MakQ b s W w' :=
  ⟨Nat.le_trans h.1 hs, fun k cs t hb h1 h2 h3 => (h.2 k cs t hb h1 h2 h3).keep (hh k hb.lt h2)⟩
theorem MakQ.row {b sb base : Nat} {w w' : World} {e : TypeId} {s : Nat} {v : Value} {n : Nat} {xs : List Value} (hK : MakQ b sb w w') (ho : w.ownsRow base e s v n xs) (he : e ≠ 53) (hb : some b ≠ v.ownBlock) (hs : some sb ≠ v.ownBlock) : w'.ownsRow base e s v n xs := by
  refine ⟨ho.1, ?_⟩
  rcases ho.2 with hn | ⟨g, cap, cur, rfl, hbg, hgg, rest⟩
  · exact .inl hn
  · exact .inr ⟨g, cap, cur, rfl, hbg, hK.2 g cur e hgg (fun e => hb (by simp [Value.ownBlock, e])) (fun e => hs (by simp [Value.ownBlock, e])) he, rest⟩
section
variable {w w' W : World} {base b mb Sb : Nat} {vt vs va : Value} {L : List (List Pa)} {n fin : Int} {ar : List Ar}
theorem MakN.grown (h : MakN w base b mb vt vs L n) {B : Nat} {v : Value} {ar : List Ar} (ho : OwnArcs w B v ar) (hg : w.grownBy w' v.ownBlock) : MakN w' base b mb vt vs L n :=
  ⟨h.blk.grown hg (own_ne ho h.blk (by decide)), h.tr.keep (hg.block _ h.tr.lt (h.tr.neRow ho)), h.trs.kept ho (by decide) (by decide) hg, h.hb, h.hm⟩
theorem MakN.setX (h : MakN w base b mb vt vs L n) {k : Nat} {cs : Array Value} {t : TypeId} (hk : Blk w k cs t) (h1 : 48 ≠ t) (h2 : 53 ≠ t) (h3 : 51 ≠ t) (o : Nat) (v : Value) : MakN (w.setCell ⟨k, o, none⟩ v) base b mb vt vs L n := by
  have hne : b ≠ k := fun e => by
    subst e
    have h4 := h.blk
    unfold Blk at h4 hk
    rw [h4] at hk
    simp only [Option.some.injEq, Obj.cells.injEq] at hk
    exact h1 hk.2.1
  exact ⟨h.blk.setO _ _ hne, h.tr.keep (Below.heap_setCell w ⟨k, o, none⟩ v mb (h.tr.neBlk hk)), h.trs.setB hk h2 h3 o v, h.hb, h.hm⟩
theorem MakN.setN (h : MakN w base b mb vt vs L n) (k : Int) : MakN (w.setCell ⟨b, 3, none⟩ (.int .i64 k)) base b mb vt vs L k :=
  ⟨h.blk.set 3 _, h.tr.keep (Below.heap_setCell w ⟨b, 3, none⟩ _ mb (Ne.symm h.ne)), h.trs.setB h.blk (by decide) (by decide) 3 _, h.hb, h.hm⟩
/-- While a set's pairs are gone through, since world W: the state's box at Sb. -/
structure AddJ (W w : World) (base b mb Sb : Nat) (vt vs : Value) (L : List (List Pa)) (n fin : Int) (va : Value) (ar : List Ar) : Prop where
  mak : MakN w base b mb vt vs L n
  keep : MakQ b Sb W w
  below : Below base W w
  sb : Blk w Sb #[.int .i64 fin, va] 31
  arcs : OwnArcs w W.heap.size va ar
  blt : b < W.heap.size
  slt : Sb < W.heap.size
  sge : base ≤ Sb
theorem AddJ.bs (h : AddJ W w base b mb Sb vt vs L n fin va ar) : Sb ≠ b := fun e => by
  have h1 := h.sb
  have h2 := h.mak.blk
  rw [e] at h1
  unfold Blk at h1 h2
  rw [h1] at h2
  exact absurd h2 (by simp)
theorem AddJ.later (h : AddJ W w base b mb Sb vt vs L n fin va ar) (hb : Below w.heap.size w w') : AddJ W w' base b mb Sb vt vs L n fin va ar :=
  ⟨h.mak.later hb, h.keep.next (MakK.of hb), h.below.trans (hb.mono (Nat.le_trans (by have := h.sge; have := h.slt; omega) h.keep.1)), h.sb.below hb h.sb.lt, h.arcs.later hb, h.blt, h.slt, h.sge⟩
theorem AddJ.num (h : AddJ W w base b mb Sb vt vs L n fin va ar) {vt' : Value} {L' : List (List Pa)} (hc : MakN w' base b mb vt' vs L' n) (hk : MakK b w w') (hb : Below base w w') : AddJ W w' base b mb Sb vt' vs L' n fin va ar :=
  ⟨hc, h.keep.next hk, h.below.trans hb, hk.2 _ _ _ h.sb h.bs (by decide), hk.row h.arcs (by decide) (own_ne h.arcs h.mak.blk (by decide)), h.blt, h.slt, h.sge⟩
theorem AddJ.setN (h : AddJ W w base b mb Sb vt vs L n fin va ar) (k : Int) : AddJ W (w.setCell ⟨b, 3, none⟩ (.int .i64 k)) base b mb Sb vt vs L k fin va ar :=
  ⟨h.mak.setN k, h.keep.next MakK.set, h.below.setCell (p := ⟨b, 3, none⟩) h.mak.hb _, h.sb.setO _ _ h.bs, World.ownsRow.kept h.arcs (gSet w b 3 _) (.inr (Ne.symm (own_ne h.arcs h.mak.blk (by decide)))), h.blt, h.slt, h.sge⟩
/-- A box of an arc, newer than W, that is not the arcs' row. -/
theorem AddJ.setA (h : AddJ W w base b mb Sb vt vs L n fin va ar) {A : Nat} {cs : Array Value} (hA : W.heap.size ≤ A) (hne : some A ≠ va.ownBlock) (hb : Blk w A cs 33) (o : Nat) (v : Value) : AddJ W (w.setCell ⟨A, o, none⟩ v) base b mb Sb vt vs L n fin va ar := by
  have hs := h.slt
  have hg := h.sge
  exact ⟨h.mak.setX hb (by decide) (by decide) (by decide) o v, h.keep.far (by simp [World.setCell]) (fun k hk _ => Below.heap_setCell w ⟨A, o, none⟩ v k (by show k ≠ A; omega)), h.below.setCell (p := ⟨A, o, none⟩) (by show base ≤ A; omega) _, h.sb.setO _ _ (by show Sb ≠ A; omega), World.ownsRow.kept h.arcs (gSet w A o v) (.inr (Ne.symm hne)), h.blt, h.slt, h.sge⟩
/-- made.Arcs = append(made.Arcs, c). -/
theorem AddJ.push (h : AddJ W w base b mb Sb vt vs L n fin va ar) (c : Ar) (hl : ar.length ≤ 100000) :
    ∃ a k q w', (Builtin.append_ #[29, 29] 29 #[va, .slice (some ⟨w.heap.size, 0, none⟩) 1 1]).run Tryz.prog (w.alloc (.cells #[.int .i64 c.1, .int .i64 c.2.1, .int .i64 c.2.2.1, .int .i64 c.2.2.2] 33)) = .ok (.slice a k q) w' ∧ Blk w' Sb #[.int .i64 fin, va] 31 ∧ AddJ W (w'.setCell ⟨Sb, 1, none⟩ (.slice a k q)) base b mb Sb vt vs L n fin (.slice a k q) (ar ++ [c]) := by
  have hA := h.later ((Below.refl w.heap.size w).alloc (Nat.le_refl _) (.cells (encA c).toArray 33))
  have hz := h.keep.1
  have hsl := h.slt
  have hsg := h.sge
  obtain ⟨v4, w4, r4, hO, hb4, hg4⟩ := h.arcs.pushJ c hl hz
  obtain ⟨a, q, hv⟩ := hO.sl
  subst hv
  have hS : Blk w4 Sb #[.int .i64 fin, va] 31 := hA.sb.grown hg4 (own_ne hA.arcs hA.sb (by decide))
  have hK4 : MakQ b Sb W w4 := hA.keep.far hg4.size (fun k hk _ => hg4.block k (Nat.lt_of_lt_of_le hk hA.keep.1) (fun e => by have := (hA.arcs.lt k e.symm).1; omega))
  have hC4 := hA.mak.grown hA.arcs hg4
  refine ⟨a, _, q, w4, r4, hS, hC4.setX hS (by decide) (by decide) (by decide) 1 _, hK4.far (by simp [World.setCell]) (fun k hk hne => Below.heap_setCell w4 ⟨Sb, 1, none⟩ _ k hne), (h.below.trans (hb4.mono (by omega))).setCell (p := ⟨Sb, 1, none⟩) hsg _, hS.set 1 _, World.ownsRow.kept hO (gSet w4 Sb 1 _) (.inr (Ne.symm (own_ne hO hS (by decide)))), h.blt, h.slt, h.sge⟩
end
def HeldM4 (b : Nat) (vs : Value) (k : Nat) (x : Int) (va : Value) (w : World) : Prop := w.cell? ⟨b, 2, none⟩ = some vs ∧ w.cell? ⟨k, 0, none⟩ = some (.int .i64 x) ∧ w.cell? ⟨k, 1, none⟩ = some va
/-- What add answers. -/
def AddAns (W : World) (base b mb : Nat) (l : List St) (T : List Int) (L : List (List Int)) (S : List St) (n : Nat) (ec : Int) (W' : World) : Prop :=
  ((finC l T).2 ≠ 0 ∧ ec = (finC l T).2) ∨ ((finC l T).2 = 0 ∧ ((ec = 4 ∧ ∃ i, i < (hopsC l T).length ∧ Fine (hopsC l T) L n i ∧ 1000000000 < (el (hopsC l T) i).2.2.1) ∨ (ec = 5 ∧ ∃ i, i < (hopsC l T).length ∧ Fine (hopsC l T) L n i ∧ (el (hopsC l T) i).2.2.1 ≤ 1000000000 ∧ (400 < n + (i + 1) ∨ 60 < (hpL (hopsC l T) L (i + 1)).length)) ∨
    (ec = 0 ∧ Fine (hopsC l T) L n (hopsC l T).length ∧ ∃ vt vs, MakN W' base b mb vt vs ((hpL (hopsC l T) L (hopsC l T).length).map parL) ((n + (hopsC l T).length : Nat) : Int) ∧ OwnSts W' base vs (S ++ [((finC l T).1, hpA (hopsC l T) L (hopsC l T).length)]))))
theorem LstM.get {w : World} {base : Nat} {a : Option Addr} {n c : Nat} {av : Option Addr} {cap : Nat} {cs : List (Nat × Nat)} (h : LstM w base (.slice a n c) av cap cs) {q : Nat} (hq : q < cs.length) : ∃ G, a = some ⟨G, 0, none⟩ ∧ G < w.heap.size ∧ w.cell? ⟨G, q, none⟩ = some (.slice (slA av cap (el cs q)).1 (slA av cap (el cs q)).2.1 (slA av cap (el cs q)).2.2) := by
  have h2 := h
  rcases h.2 with ⟨_, h0⟩ | ⟨G, cap', cur, hv, hb, hG, _⟩
  · omega
  · injection hv with e1 _ _
    refine ⟨G, e1, lt_of_block hG, ?_⟩
    have h9 := World.ownsRow.cells h2 (g := G) (by rw [e1]; rfl) q (slV (slA av cap (el cs q))) (by
      have h3 := flat_at encL_len (cs.map (slA av cap)) q (by rw [List.length_map]; exact hq) 0 (by omega)
      rw [Nat.mul_one, Nat.add_zero] at h3
      rw [h3, el_map hq]; rfl)
    rw [Addr.add_lit, Nat.zero_add] at h9
    exact h9
/-- A piece of arcs that lie there is those arcs. -/
theorem pie_arcs {w : World} {base : Nat} {a : Option Addr} {n cap : Nat} {l : List Ar} (h : OwnArcs w base (.slice a n cap) l) {c : Nat × Nat} (hc : c.1 + c.2 ≤ l.length) (h0 : 0 < c.2) : Arcs w (.slice (slA a cap c).1 (slA a cap c).2.1 (slA a cap c).2.2) (pieA l c) := by
  rcases h.arcs with ⟨e, he⟩ | ⟨ad, c2, e, hcell⟩
  · rw [he] at hc
    simp at hc
    omega
  · injection e with e1 e2 e3
    subst e1
    have hl := pie_len (l := l) hc
    refine .inr ⟨ad.add (c.1 * 4), cap - c.1, by rw [hl]; rfl, fun j hj u v hu => ?_⟩
    rw [hl] at hj
    rw [pie_el hj] at hu
    have h9 := hcell (c.1 + j) (by omega) u v hu
    rw [Addr.add_add]
    rwa [show c.1 * 4 + (j * 4 + u) = (c.1 + j) * 4 + u by omega]
end Go.Proofs.YtfekmlblldhieaaGreatDoor.Wt
namespace Go.Proofs.YtfekmlblldhieaaGreatDoor.Wt
open Go.ChangeShapes Go.WideShapes Go.ChangeAt Go.RowKit Go.Maps
open Go.Proofs.YtfekmlblldhieaaGreatDoor.Pl
set_option linter.unusedVariables false
set_option linter.unusedSimpArgs false
theorem sh_of {n : Nat} {B : Int} {p : Pa} (h : SmP n B p) (hn : n ≤ 60) (hB : B ≤ 1000000000000) : ShP p := by
  unfold SmP at h
  unfold ShP
  omega
theorem fine_len {hs : List (Hg (List Int))} {L : List (List Int)} {n k : Nat} (hF : Fine hs L n k) (hL : L.length ≤ 60) (hn : n ≤ 400) : (hpL hs L k).length ≤ 60 ∧ n + k ≤ 400 := by
  cases k with
  | zero => exact ⟨hL, hn⟩
  | succ j => exact ⟨(hF j (by omega)).2.2, (hF j (by omega)).2.1⟩
set_option maxRecDepth 100000 in
set_option maxHeartbeats 12800000 in
theorem makAdd_any (w0 W : World) (base b mb : Nat) (vt vs : Value) (z : Int) (am : Option Addr) (nl capm : Nat) (l : List St) (T : List Int) (L : List (List Int)) (S : List St) (n : Nat) (a : Option Addr) (np c : Nat) (h : MakN W base b mb vt vs (L.map parL) (n : Int)) (hS : OwnSts W base vs S) (hP : OwnP W base (.slice a np c) (parL T)) (hM : Mach w0 (.agg #[.int .i64 z, .slice am nl capm]) (z, l)) (hf : faultM (z, l) = 0) (ht : Tab w0) (hb0 : Below w0.heap.size w0 W) (hwb : w0.heap.size ≤ base) (hT : SetN l.length 60000000000 T) (hLr : ∀ R ∈ L, SetN l.length 60000000000 R) (hN : L.Nodup) (hL : L.length ≤ 60) (n4 : n ≤ 400) (hSl : S.length ≤ 1000) (hbW : base ≤ W.heap.size) :
    Calls Tryz.prog 11 #[.pointer (some ⟨b, 0, none⟩), .agg #[.int .i64 z, .slice am nl capm], .slice a np c] W fun e W' => ∃ ec : Int, e = .returned (.int .i64 ec) ∧ Below base W W' ∧ AddAns W base b mb l T L S n ec W' := by
  have h60 := (right_size hf).1
  have hpl : (parL T).length ≤ 60 := Nat.le_trans (parL_len T) (by rw [hT.len]; exact h60)
  have hsm : ∀ p ∈ parL T, SmP l.length 1000000000000 p := fun p hp => by have h9 := parL_sm hT p hp; unfold SmP at h9 ⊢; omega
  have hfin : finC l T = (tldN (mnL (fnsP l (parL T))), tldE (mnL (fnsP l (parL T)))) := by rw [fnsP_par hT.len]; rfl
  obtain ⟨r0, hr0⟩ : ∃ r0, (finC l T).1 = r0 := ⟨_, rfl⟩
  obtain ⟨r1, hr1⟩ : ∃ r1, (finC l T).2 = r1 := ⟨_, rfl⟩
  have HF := hidP (fun W' (hW : Below W.heap.size W W') => finalOf_any (.agg #[.int .i64 z, .slice am nl capm]) (z, l) base (.slice a np c) (parL T) W' (hM.later (hb0.trans (hW.mono hb0.size)) (Nat.le_refl _)) hf (hP.later hW) hsm (by omega) r0 r1 (by rw [← hr0, hfin]) (by rw [← hr1, hfin]))
  have HAO := hidP (fun W' (hW : Below W.heap.size W W') => setArcs_any (.agg #[.int .i64 z, .slice am nl capm]) (z, l) base (.slice a np c) (parL T) W' (hM.later (hb0.trans (hW.mono hb0.size)) (Nat.le_refl _)) hf (hP.later hW) hsm (by omega))
  have HR1 := hidP hr1
  have HR0 := hidP hr0
  by_cases he : r1 = 0
  · subst he
    obtain ⟨srt, hsrt⟩ : ∃ srt, sortL (arcW l (parL T)) = srt := ⟨_, rfl⟩
    obtain ⟨cs, hcs⟩ : ∃ cs, cutL srt = cs := ⟨_, rfl⟩
    obtain ⟨hch1, hch2⟩ := cut_hops (m := (z, l)) (B := 60000000000) hf hT (by unfold noneI; omega) hsrt hcs
    have HCI : Hid (∀ k, k ≤ srt.length → CutI srt k (cutS srt k).1 (cutS srt k).2) := fun k hk => cut_inv (by rw [← hsrt]; exact sort_leP _) k hk
    have HWT : Hid (∀ x ∈ srt, 0 ≤ x.2.2.1 ∧ x.2.2.1 ≤ 2000000000000) := by rw [← hsrt]; exact arcW_pos (m := (z, l)) hf hT
    have hslen : srt.length ≤ 40000 := by
      rw [← hsrt, sortL_length]
      have h1 := arcW_len (l := l) (ps := parL T) (fun q => by
        by_cases hq : q < l.length
        · exact (right_states hf q hq).2.1
        · rw [show el l q = default by simp [el, List.getElem?_eq_none (Nat.le_of_not_lt hq)]]
          exact Nat.zero_le _)
      omega
    have HGD : Hid (∀ i, i < (hopsC l T).length → SetN l.length 100000000000 (el (hopsC l T) i).2.2.2 ∧ 0 ≤ (el (hopsC l T) i).2.2.1 ∧ (el (hopsC l T) i).2.2.1 ≤ 100000000000) := fun i hi => hops_good (m := (z, l)) hf hT hi
    simp only at hch1 hch2
    obtain ⟨hs, hhs⟩ : ∃ hs, hopsC l T = hs := ⟨_, rfl⟩
    rw [hhs] at hch1 hch2 HGD
    have HCH := hidP hch2
    have HLG : Hid (∀ i, i ≤ hs.length → ∀ R ∈ hpL hs L i, SetN l.length 100000000000 R) := fun i hi => hpL_good (fun R hR => (hLr R hR).mono (by omega)) (fun i hi => (HGD.out i hi).1) i hi
    have HND : Hid (∀ i, (hpL hs L i).Nodup) := fun i => hpL_nodup hN i
    have HANS : Hid (∀ ec W', ((ec = 4 ∧ ∃ i, i < hs.length ∧ Fine hs L n i ∧ 1000000000 < (el hs i).2.2.1) ∨ (ec = 5 ∧ ∃ i, i < hs.length ∧ Fine hs L n i ∧ (el hs i).2.2.1 ≤ 1000000000 ∧ (400 < n + (i + 1) ∨ 60 < (hpL hs L (i + 1)).length)) ∨ (ec = 0 ∧ Fine hs L n hs.length ∧ ∃ vt vs, MakN W' base b mb vt vs ((hpL hs L hs.length).map parL) ((n + hs.length : Nat) : Int) ∧ OwnSts W' base vs (S ++ [(r0, hpA hs L hs.length)]))) → AddAns W base b mb l T L S n ec W') := fun ec W' hx => by
      refine .inr ⟨HR1.out, ?_⟩
      rw [hhs, HR0.out]
      exact hx
    have HAO : Hid (∀ W', Below W.heap.size W W' → Calls Tryz.prog 30 #[.agg #[.int .i64 z, .slice am nl capm], .slice a np c] W' fun e w' => ∃ vr, e = .returned vr ∧ OwnArcs w' W'.heap.size vr srt ∧ Below W'.heap.size W' w') := fun W' hW => by
      have h9 := HAO.out W' hW
      simp only at h9
      rw [hsrt] at h9
      exact h9
    have H := hidP h
    have HSt := hidP hS
    have HTB := hidP ht
    have HB0 := hidP hb0
    have bl := h.blk.lt
    have HMB := hidP h.blk
    have HCS := hidP hcs
    have HLC := hidP hch1
    have hls : cs.length ≤ 40001 := by
      have h1 : (cutL srt).length ≤ srt.length + 1 := by
        have h2 : ∀ k, (cutS srt k).1.length ≤ k := fun k => by
          induction k with
          | zero => simp [cutS]
          | succ k ih =>
            unfold cutS
            split
            · omega
            · simp; omega
        have h3 := h2 srt.length
        unfold cutL
        split
        · simp; omega
        · omega
      rw [hcs] at h1
      omega
    clear h hS hM hf ht hb0 hT hLr hN hfin hsm hr0 hr1 hhs hsrt hch1 hch2 hcs HR1 HR0 hP
    have HBX : Hid (Below W.heap.size W (W.alloc (.cells #[.int .i64 z, .slice am nl capm] 27))) := (Below.refl _ _).alloc (Nat.le_refl _) _
    go_enter Tryz.func11, Tryz.ntmps11
    go_wp2_with (first
      | (go_at_call 28; (with_reducible refine (HF.out _ HBX.out).mono ?_); rintro e w1 ⟨rfl, hb1⟩; obtain ⟨s1, k0, hb1⟩ := boxed hb1 (by simp); have K1 := hidP k0; have B1 := hidP hb1; have m0 := k0.cell 0 (v := .int .i64 z) rfl; have m1 := k0.cell 1 (v := .slice am nl capm) rfl; have ml := k0.lt; clear k0 hb1 HF HBX)
      | (go_at_call 30; (with_reducible refine (HAO.out _ (B1.out.alloc B1.out.size _)).mono ?_); rintro e w2 ⟨vr, rfl, ho2, hb2⟩; obtain ⟨s2, k2, hb2⟩ := boxed hb2 (by simp); have K2 := hidP k2; have O2 := hidP ho2; have B2 := hidP (B1.out.trans (hb2.mono B1.out.size)); obtain ⟨a2, n2, c2, hv2⟩ := (by obtain ⟨x, y, e⟩ := ho2.sl; exact ⟨x, _, y, e⟩ : ∃ x nn y, vr = .slice x nn y); subst hv2; have hn2 : n2 = srt.length := (by obtain ⟨x, y, e⟩ := O2.out.sl; injection e); have HBL := hidP (byLabels_any _ a2 n2 c2 srt w2 O2.out hn2 (by omega) HCI.out); have HN2 := hidP hn2; clear ho2 hb2 k2 HAO hn2 K1 m0 m1 ml)
      | (go_at_call 29; (with_reducible refine HBL.out.mono ?_); rintro e w3 ⟨vl, rfl, hl3, hb3⟩; rw [HCS.out] at hl3; obtain ⟨a3, c3, hv3⟩ := hl3.sl; subst hv3; have L3 := hidP hl3; have O3 := hidP (O2.out.later hb3); have K3 := hidP (K2.out.below hb3 K2.out.lt); have B3 := hidP (B2.out.trans (hb3.mono B2.out.size)); have hs3 := hb3.size; clear hl3 hb3 HBL O2 K2))
    obtain ⟨nC, hnC⟩ : ∃ nC, cs.length = nC := ⟨_, rfl⟩
    rw [hnC] at HLC hls HCH L3 ⊢
    have HNC := hidP hnC
    clear hnC
    obtain ⟨Sb, hSb⟩ : ∃ Sb, Sb = w1.heap.size := ⟨_, rfl⟩
    rw [← hSb] at K3 ⊢
    have hSW : W.heap.size ≤ Sb := by rw [hSb]; exact B1.out.size
    clear hSb s1 s2 hs3
    have A0 : Hid (AddJ w3 w3 base b mb Sb vt vs ((hpL hs L 0).map parL) ((n + 0 : Nat) : Int) r0 (.slice none 0 0) (hpA hs L 0)) := ⟨H.out.later B3.out, MakQ.refl _ _ _, Below.refl _ _, K3.out, OwnArcs.nil _ _, Nat.lt_of_lt_of_le bl B3.out.size, K3.out.lt, by omega⟩
    have F0 : Hid (Fine hs L n 0) := fun j hj => absurd hj (by omega)
    have KM3 := hidP (H.out.later B3.out).blk
    clear B1 B2
    go_loopw [30] (fun i wr => ∃ (k : Nat) (vt' va : Value), k ≤ nC ∧ i = .int .i64 (k : Int) ∧ Hid (AddJ w3 wr base b mb Sb vt' vs ((hpL hs L k).map parL) ((n + k : Nat) : Int) r0 va (hpA hs L k)) ∧ Hid (Fine hs L n k)) (fun i _ => nC - (intOf i).toNat)
    case atStart => exact ⟨0, vt, _, Nat.zero_le _, rfl, A0, F0⟩
    case round =>
      clear A0 F0
      obtain ⟨k, vt5, va5, hk, rfl, hI, hFi⟩ := hrel
      obtain ⟨w5, hw5⟩ : ∃ w5, w5 = wr := ⟨_, rfl⟩
      subst hw5
      obtain ⟨hLk, hnk⟩ := fine_len hFi.out hL n4
      obtain ⟨nk, hNK⟩ : ∃ nk : Int, ((n + k : Nat) : Int) = nk := ⟨_, rfl⟩
      rw [hNK] at hI
      have HNK := hidP hNK
      have nk0 : 0 ≤ nk := by omega
      have nk4 : nk ≤ 400 := by omega
      clear hNK
      by_cases hlt : k < nC
      · have j0 : (0 : Int) ≤ (k : Int) := Int.natCast_nonneg _
        have j1 : (k : Int) < (nC : Int) := by omega
        have hL5 : LstM w5 w2.heap.size (.slice a3 nC c3) a2 c2 cs := hI.out.keep.row L3.out (by decide) (own_ne L3.out KM3.out (by decide)) (own_ne L3.out K3.out (by decide))
        have hO5 : OwnArcs w5 _ (.slice a2 n2 c2) srt := hI.out.keep.row O3.out (by decide) (own_ne O3.out KM3.out (by decide)) (own_ne O3.out K3.out (by decide))
        obtain ⟨G, hG, hGl, g0⟩ := hL5.get (q := k) (by rw [HNC.out]; exact hlt)
        subst hG
        obtain ⟨hc1, hc2, hc3, hc4, hc5⟩ := HCH.out k hlt
        have hAr := pie_arcs hO5 hc1 hc2
        have hgl := pie_len hc1
        have hkh : k < hs.length := by rw [← HLC.out]; exact hlt
        obtain ⟨hgd1, hgd2, hgd3⟩ := HGD.out k hkh
        have hwt : ∀ x ∈ pieA srt (el cs k), 0 ≤ x.2.2.1 ∧ x.2.2.1 ≤ 2000000000000 := fun x hx => HWT.out x (by unfold pieA at hx; exact List.mem_of_mem_drop (List.mem_of_mem_take hx))
        have hel0 : el (pieA srt (el cs k)) 0 = el srt (el cs k).1 := by rw [pie_el hc2, Nat.add_zero]
        obtain ⟨g, hg⟩ : ∃ g, pieA srt (el cs k) = g := ⟨_, rfl⟩
        rw [hg] at hAr hgl hc4 hc5 hwt hel0
        have HLS : Hid (hpL hs L (k + 1) = addG (hpL hs L k) (el hs k).2.2.2) := rfl
        have HAS : Hid (hpA hs L (k + 1) = hpA hs L k ++ [arcG (hpL hs L k) (el hs k)]) := rfl
        have HFA : Hid (∀ j, j < k → (el hs j).2.2.1 ≤ 1000000000 ∧ n + (j + 1) ≤ 400 ∧ (hpL hs L (j + 1)).length ≤ 60) := hFi.out
        obtain ⟨hp, hhp⟩ : ∃ hp, el hs k = hp := ⟨_, rfl⟩
        have HHP := hidP hhp
        rw [hhp] at hc3 hc4 hc5 hgd1 hgd2 hgd3 HLS HAS
        obtain ⟨x0, x1, ct, R⟩ := hp
        simp only at hc3 hc4 hc5 hgd1 hgd2 hgd3 HLS HAS
        simp only [labA, Prod.mk.injEq] at hc3
        obtain ⟨sA, sN, sC, hsl⟩ : ∃ sA sN sC, slA a2 c2 (el cs k) = (sA, sN, sC) := ⟨_, _, _, rfl⟩
        have hsN : sN = (el cs k).2 := by have h9 := congrArg (fun s => s.2.1) hsl; exact h9.symm
        rw [hsl] at g0 hAr
        simp only at g0 hAr
        rw [← hsN] at hgl hc5 hc2
        have HTG := hidP (together_any sA sN sC g w5 hAr hgl.symm hc2 (by have := hc1; omega) hwt ct hc4 x0 x1 (by rw [hel0]; exact hc3.1) (by rw [hel0]; exact hc3.2))
        rw [hc5] at HTG
        have hRl : R.length = l.length := hgd1.len
        have hRL : (parL R).length ≤ 60 := Nat.le_trans (parL_len R) (by rw [hRl]; exact h60)
        have HRS : Hid (∀ p ∈ parL R, ShP p) := fun p hp => sh_of (parL_sm hgd1 p hp) h60 (by omega)
        have HRN : Hid (parL R ≠ []) := by rw [← hc5]; exact tgU_ne hc2
        have hsz := hI.out.keep.1
        have HAL := hidP (hpA_len hs L k)
        clear hL5 hO5 hc1 hc2 hc3 hc4 hc5 hAr hgl hwt hel0 hg hhp hsl hsN hFi
        by_cases hov : 1000000000 < ct
        · have HAN : Hid (∀ W', AddAns W base b mb l T L S n 4 W') := fun W' => HANS.out 4 W' (.inl ⟨rfl, k, hkh, HFA.out, by rw [HHP.out]; exact hov⟩)
          clear HANS HFA HLS HAS HAL HRS HRN hgd1 HHP
          go_wp2_with (first
            | (go_at_call 31; (with_reducible refine HTG.out.mono ?_); rintro e w6 ⟨vr, rfl, ho6, hb6⟩; obtain ⟨a6, n6, c6, hv6⟩ := (by obtain ⟨x, y, e⟩ := ho6.sl; exact ⟨x, _, y, e⟩ : ∃ x nn y, vr = .slice x nn y); subst hv6; have B6 := hidP ((hI.out.later hb6).later ((Below.refl w6.heap.size w6).alloc (Nat.le_refl _) (.cells #[.int .i64 x0, .int .i64 x1, .int .i64 ct, .int .i64 0] 33))); clear ho6 hb6 HTG))
          go_ret
          exact ⟨4, rfl, (B3.out.mono hbW).trans B6.out.below, HAN.out _⟩
        · have HNU := hidP (fun W' (h1 : AddJ w3 W' base b mb Sb vt5 vs ((hpL hs L k).map parL) nk r0 va5 (hpA hs L k)) a6 n6 c6 (h2 : OwnP W' base (.slice a6 n6 c6) (parL R)) => makNum_any base b mb vt5 vs ((hpL hs L k).map parL) nk a6 n6 c6 (parL R) W' h1.mak h2 (HTB.out.later ((HB0.out.trans (B3.out.mono HB0.out.size)).trans (h1.below.mono hwb))) HRS.out HRN.out (by omega) (fun qs hq p hp => by
            obtain ⟨T', hT', rfl⟩ := List.mem_map.1 hq
            exact sh_of (parL_sm (HLG.out k (by omega) T' hT') p hp) h60 (by omega)) (nodup_par (n := l.length) (fun T' hT' => (HLG.out k (by omega) T' hT').len) (HND.out k)) (by rw [List.length_map]; omega) (Nat.le_trans (Nat.le_trans hbW B3.out.size) h1.keep.1))
          have HLN : Hid (∀ T' ∈ hpL hs L k, T'.length = l.length) := fun T' hT' => (HLG.out k (by omega) T' hT').len
          have hal : (hpA hs L k).length ≤ 100000 := by rw [HAL.out]; omega
          go_upto_region 12 with (first
            | (go_at_call 31; (with_reducible refine HTG.out.mono ?_); rintro e w6 ⟨vr, rfl, ho6, hb6⟩; obtain ⟨a6, n6, c6, hv6⟩ := (by obtain ⟨x, y, e⟩ := ho6.sl; exact ⟨x, _, y, e⟩ : ∃ x nn y, vr = .slice x nn y); subst hv6; have hA6 := (Below.refl w6.heap.size w6).alloc (Nat.le_refl _) (.cells #[.int .i64 x0, .int .i64 x1, .int .i64 ct, .int .i64 0] 33); have I6 := hidP ((hI.out.later hb6).later hA6); have P6 := hidP ((ho6.later hA6).mono (Nat.le_trans (Nat.le_trans hbW B3.out.size) hsz)); have X6 := hidP (Blk.made w6 #[.int .i64 x0, .int .i64 x1, .int .i64 ct, .int .i64 0] 33); have hs6 := hb6.size; have NE6 : Hid (some w6.heap.size ≠ va5.ownBlock) := (fun e => by have h9 := ((hI.out.later hb6).arcs.lt _ e.symm).2; omega); have hAb : w6.heap.size ≠ b := (by have h9 := (hI.out.later hb6).mak.blk.lt; omega); clear ho6 hb6 hA6 HTG)
            | (go_at_call 27; (with_reducible refine (HNU.out _ I6.out _ _ _ P6.out).mono ?_); rintro e w7 ⟨jx, rfl, hNO, ⟨vt7, h7⟩, hk7, hb7⟩; have I7 := hidP (I6.out.num h7 hk7 hb7); have X7 := hidP (hk7.2 _ _ _ X6.out hAb (by decide)); have NO := hidP hNO; have q3 := X7.out.cell 3 (v := .int .i64 0) rfl; have f3 := X7.out.fz 3; clear h7 hk7 hb7 hNO I6 P6 X6 HNU))
          have I8 := hidP (I7.out.setA (A := w6.heap.size) (by omega) NE6.out X7.out 3 (.int .i64 (jx : Int)))
          have X8 : Hid (Blk (w7.setCell ⟨w6.heap.size, 3, none⟩ (.int .i64 (jx : Int))) w6.heap.size #[.int .i64 x0, .int .i64 x1, .int .i64 ct, .int .i64 (jx : Int)] 33) := X7.out.set 3 _
          clear q3 f3 I7 X7
          generalize w7.setCell ⟨w6.heap.size, 3, none⟩ (.int .i64 (jx : Int)) = w8 at *
          obtain ⟨a9, n9, c9, w9, r9, hs9, h9⟩ := I8.out.push (x0, x1, ct, (jx : Int)) hal
          simp only at r9
          have s1 := I8.out.sb.cell 1 (v := va5) rfl
          have y0 := X8.out.cell 0 (v := .int .i64 x0) rfl
          have y1 := X8.out.cell 1 (v := .int .i64 x1) rfl
          have y2 := X8.out.cell 2 (v := .int .i64 ct) rfl
          have y3 := X8.out.cell 3 (v := .int .i64 (jx : Int)) rfl
          have t1 := hs9.cell 1 (v := va5) rfl
          have tf := hs9.fz 1
          have HR9 := hidP r9
          have I9 := hidP h9
          clear r9 hs9 h9 X8 I8 hI
          go_upto_region 13 with (first | (at_builtin; refine wpListAppendRun rfl _ _ 29 rfl rfl rfl HR9.out ?_))
          clear s1 y0 y1 y2 y3 t1 tf HR9
          generalize w9.setCell ⟨Sb, 1, none⟩ (.slice a9 n9 c9) = w10 at *
          have b3 := I9.out.mak.blk.cell 3 (v := .int .i64 nk) rfl
          have bf := I9.out.mak.blk.fz 3
          have hwr : IntKind.i64.wrap (nk + 1) = nk + 1 := wrapI (by omega) (by omega)
          have I10 := hidP (I9.out.setN (nk + 1))
          have HFU := hidP (makFull_any base b mb vt7 vs _ (nk + 1) _ I10.out.mak)
          have HAD : Hid (addG ((hpL hs L k).map parL) (parL R) = (hpL hs L (k + 1)).map parL) := by show _ = _; rw [HLS.out]; exact addG_par HLN.out hRl
          have HAR : Hid (hpA hs L k ++ [(x0, x1, ct, (jx : Int))] = hpA hs L (k + 1)) := by show _ = _; rw [HAS.out, arcG_par HLN.out hRl (HND.out k) NO.out.1 NO.out.2 x0 x1 ct]
          rw [HAD.out, HAR.out] at I10
          rw [HAD.out, List.length_map] at HFU
          clear HAD HAR NO I9 HLS HAS
          by_cases hful : 400 < n + (k + 1) ∨ 60 < (hpL hs L (k + 1)).length
          · have HFU := hidP (HFU.out true (decide_eq_true (by have := HNK.out; omega)))
            have HAN : Hid (∀ W', AddAns W base b mb l T L S n 5 W') := fun W' => HANS.out 5 W' (.inr (.inl ⟨rfl, k, hkh, HFA.out, by rw [HHP.out]; simp only; omega, hful⟩))
            clear HANS HFA HAL HRS HRN hgd1 HHP hful
            go_wp2_with (first
              | (go_at_call 32; (with_reducible refine HFU.out.mono ?_); rintro e wq ⟨rfl, rfl⟩))
            go_ret
            exact ⟨5, rfl, (B3.out.mono hbW).trans I10.out.below, HAN.out _⟩
          · have HFU := hidP (HFU.out false (decide_eq_false (by have := HNK.out; omega)))
            have HF2 : Hid (Fine hs L n (k + 1)) := fun j hj => by
              by_cases e : j = k
              · subst e
                exact ⟨by rw [HHP.out]; simp only; omega, by omega, by omega⟩
              · exact HFA.out j (by omega)
            have HNK2 : Hid (nk + 1 = ((n + (k + 1) : Nat) : Int)) := by show _ = _; rw [← HNK.out]; omega
            clear HANS HFA HAL HRS HRN hgd1 HHP hful
            go_wp2_with (first
              | (go_at_call 32; (with_reducible refine HFU.out.mono ?_); rintro e wq ⟨rfl, rfl⟩))
            go_roundw
            case rel => exact ⟨k + 1, vt7, .slice a9 n9 c9, by omega, by go_num, by rw [← HNK2.out]; exact I10, HF2⟩
            case measure => simp [intOf]; omega
      · have hkm : k = nC := by omega
        have hnl : ¬ (k : Int) < (nC : Int) := by omega
        have HKS : Hid (k = hs.length) := by show _ = _; rw [hkm]; exact HLC.out
        have hzl : ∀ q, vs.ownBlock = some q → q < W.heap.size := fun q hq => by
          obtain ⟨vv, y1, _⟩ := HSt.out
          exact (y1.lt q hq).2
        subst hkm
        clear hlt hk
        have hSW : OwnSts w5 base vs S := by
          obtain ⟨vv, y1, y2, y3⟩ := HSt.out.laterB B3.out
          exact ⟨vv, hI.out.keep.row y1 (by decide) (own_ne y1 KM3.out (by decide)) (fun e => by have := hzl _ e.symm; omega), y2, fun j hj => ⟨(y3 j hj).1, hI.out.keep.row (y3 j hj).2 (by decide) (own_ne (y3 j hj).2 KM3.out (by decide)) (own_ne (y3 j hj).2 K3.out (by decide))⟩⟩
        have hD := (Below.refl w5.heap.size w5).drew
        have hD2 := ((Below.refl w5.heap.size w5).drew).alloc (Nat.le_refl _) (.cells #[.int .i64 r0, va5] 31)
        have hb5 : base ≤ w5.heap.size := Nat.le_trans (Nat.le_trans hbW B3.out.size) hI.out.keep.1
        obtain ⟨v6, w6, hr6, ho6, hb6, hg6⟩ := run_pushG (W := w5.drew.alloc (.cells #[.int .i64 r0, va5] 31)) (w1 := w5.drew) (r0, hpA hs L k) S va5 vs base rfl rfl rfl rfl (hSW.laterB hD) (OwnArcs.mono (hI.out.arcs.later hD) (Nat.le_trans hbW B3.out.size)) (by omega) hb5
        obtain ⟨a6, c6, hv6⟩ := ho6.sts.sl
        obtain ⟨n6, hn6⟩ : ∃ n6, (S ++ [(r0, hpA hs L k)]).length = n6 := ⟨_, rfl⟩
        rw [hn6] at hv6
        clear hn6
        subst hv6
        have hI2 := hI.out.later hD2
        obtain ⟨vv, z1, z2, z3⟩ := hSW.laterB hD2
        have hs6 : Blk w6 Sb #[.int .i64 r0, va5] 31 := hI2.sb.grown hg6 (fun e => by have := hzl _ e.symm; omega)
        have hb6' : Blk w6 b #[.map (some mb), vt5, vs, .int .i64 nk] 48 := hI2.mak.blk.grown hg6 (own_ne z1 hI2.mak.blk (by decide))
        have ht6 : TxM w6 mb ((hpL hs L k).map parL |>.map txL) := hI2.mak.tr.keep (hg6.block _ hI2.mak.tr.lt (hI2.mak.tr.neRow z1))
        have hr6' : SetsM w6 base vt5 ((hpL hs L k).map parL) := hI2.mak.trs.kept z1 (by decide) (by decide) hg6
        have HC7 : Hid (MakN (w6.setCell ⟨b, 2, none⟩ (.slice a6 n6 c6)) base b mb vt5 (.slice a6 n6 c6) ((hpL hs L k).map parL) nk) := ⟨hb6'.set 2 _, ht6.keep (Below.heap_setCell w6 ⟨b, 2, none⟩ _ mb (ht6.neBlk hb6')), hr6'.setB hb6' (by decide) (by decide) 2 _, hI.out.mak.hb, hI.out.mak.hm⟩
        have HO7 : Hid (OwnSts (w6.setCell ⟨b, 2, none⟩ (.slice a6 n6 c6)) base (.slice a6 n6 c6) (S ++ [(r0, hpA hs L k)])) := (MakK.set (b := b)).sts hb6' ho6
        have HB7 := hidP ((((B3.out.mono hbW).trans (hI.out.below.trans ((Below.refl base w5).drew))).trans hb6).setCell (p := ⟨b, 2, none⟩) hI.out.mak.hb (.slice a6 n6 c6))
        have HSA : HeldM4 b vs Sb r0 va5 w5.drew := ⟨hI.out.mak.blk.cell 2 rfl, hI.out.sb.cell 0 rfl, hI.out.sb.cell 1 rfl⟩
        have HSB : HeldM4 b vs Sb r0 va5 (w5.drew.alloc (.cells #[.int .i64 r0, va5] 31)) := ⟨hI2.mak.blk.cell 2 rfl, hI2.sb.cell 0 rfl, hI2.sb.cell 1 rfl⟩
        have HSC : HeldM4 b vs Sb r0 va5 w6 := ⟨hb6'.cell 2 rfl, hs6.cell 0 rfl, hs6.cell 1 rfl⟩
        have c6' := hb6'.cell 2 (v := vs) rfl
        have f6 := hb6'.fz 2
        have HR6 := hidP hr6
        have HAN := hidP (HANS.out 0 (w6.setCell ⟨b, 2, none⟩ (.slice a6 n6 c6)) (.inr (.inr ⟨rfl, by rw [← HKS.out]; exact hFi.out, vt5, .slice a6 n6 c6, by rw [← HKS.out, HNK.out]; exact HC7.out, by rw [← HKS.out]; exact HO7.out⟩)))
        clear hSW hD hD2 hr6 ho6 hb6 hg6 hI2 z1 z2 z3 hzl hs6 hb6' ht6 hr6' hI hFi HC7 HO7 HANS
        go_wp2
        refine region_anyL (HeldM4 b vs Sb r0 va5) 10 (by kernel_rfl) ?_
        refine anyL_take (i := 0) (v := ?v0_1) at0 (by kernel_rfl) (by kernel_rfl) (by kernel_rfl) (by kernel_rfl) (fun _ _ _ h => h) rfl ?y0_1 HSA ?r0_1
        case y0_1 => intro wx hx; obtain ⟨g0, g1, g2⟩ := hx; go_simp; try (with_reducible rfl)
        simp only [Act.put, List.setIfInBounds_toArray, List.set_cons_zero, List.set_cons_succ]
        refine anyL_take (i := 1) (v := ?v1_2) (atS at0) (by kernel_rfl) (by kernel_rfl) (by kernel_rfl) (by kernel_rfl) (fun _ _ _ h => h) rfl ?y1_2 HSA ?r1_2
        case y1_2 => intro wx hx; obtain ⟨g0, g1, g2⟩ := hx; go_simp; try (with_reducible rfl)
        simp only [Act.put, List.setIfInBounds_toArray, List.set_cons_zero, List.set_cons_succ]
        refine anyL_take (i := 2) (v := ?v2_3) (atS (atS at0)) (by kernel_rfl) (by kernel_rfl) (by kernel_rfl) (by kernel_rfl) (fun _ _ _ h => h) rfl ?y2_3 HSA ?r2_3
        case y2_3 => intro wx hx; obtain ⟨g0, g1, g2⟩ := hx; go_simp; try (with_reducible rfl)
        simp only [Act.put, List.setIfInBounds_toArray, List.set_cons_zero, List.set_cons_succ]
        refine anyL_take (i := 3) (v := ?v3_4) (atS (atS (atS at0))) (by kernel_rfl) (by kernel_rfl) (by kernel_rfl) (by kernel_rfl) (fun _ _ _ h => h) rfl ?y3_4 HSA ?r3_4
        case y3_4 => intro wx hx; obtain ⟨g0, g1, g2⟩ := hx; go_simp; try (with_reducible rfl)
        simp only [Act.put, List.setIfInBounds_toArray, List.set_cons_zero, List.set_cons_succ]
        refine anyL_take (i := 4) (v := ?v4_5) (atS (atS (atS (atS at0)))) (by kernel_rfl) (by kernel_rfl) (by kernel_rfl) (by kernel_rfl) (fun _ _ _ h => h) rfl ?y4_5 HSA ?r4_5
        case y4_5 => intro wx hx; obtain ⟨g0, g1, g2⟩ := hx; go_simp; try (with_reducible rfl)
        simp only [Act.put, List.setIfInBounds_toArray, List.set_cons_zero, List.set_cons_succ]
        refine anyL_take (i := 5) (v := ?v5_6) (atS (atS (atS (atS (atS at0))))) (by kernel_rfl) (by kernel_rfl) (by kernel_rfl) (by kernel_rfl) (fun _ _ _ h => h) rfl ?y5_6 HSA ?r5_6
        case y5_6 => intro wx hx; obtain ⟨g0, g1, g2⟩ := hx; go_simp; try (with_reducible rfl)
        simp only [Act.put, List.setIfInBounds_toArray, List.set_cons_zero, List.set_cons_succ]
        refine anyL_one (i := 6) (atS (atS (atS (atS (atS (atS at0)))))) (by kernel_rfl) rfl (fun K hK => ?_)
        go_simp
        refine hK _ _ (.inr HSB) ?_
        try simp only [Act.put, List.setIfInBounds_toArray, List.set_cons_zero, List.set_cons_succ]
        refine anyL_one (i := 7) (atS (atS (atS (atS (atS (atS (atS at0))))))) (by kernel_rfl) rfl (fun K hK => ?_)
        refine wp_append_run (.tmp 66) (.tmp 68) 25 rfl rfl rfl HR6.out ?_
        refine hK _ _ (.inr HSC) ?_
        try simp only [Act.put, List.setIfInBounds_toArray, List.set_cons_zero, List.set_cons_succ]
        refine anyL_one (i := 8) (atS (atS (atS (atS (atS (atS (atS (atS at0)))))))) (by kernel_rfl) rfl (fun K hK => ?_)
        go_simp
        refine hK _ _ (.inr HSC) ?_
        try simp only [Act.put, List.setIfInBounds_toArray, List.set_cons_zero, List.set_cons_succ]
        refine anyL_one (i := 9) (atS (atS (atS (atS (atS (atS (atS (atS (atS at0))))))))) (by kernel_rfl) rfl (fun K hK => ?_)
        go_simp
        refine hK _ _ (.inr HSC) ?_
        try simp only [Act.put, List.setIfInBounds_toArray, List.set_cons_zero, List.set_cons_succ]
        refine anyL_one (i := 10) (atS (atS (atS (atS (atS (atS (atS (atS (atS (atS at0)))))))))) (by kernel_rfl) rfl (fun K hK => ?_)
        go_simp
        refine hK _ _ (.inl rfl) (anyL_done (by kernel_rfl) (NoPanic.normal ?_))
        try simp only [Act.put, List.setIfInBounds_toArray, List.set_cons_zero, List.set_cons_succ]
        clear HSA HSB HSC
        go_wp2
        go_ret
        exact ⟨0, rfl, HB7.out, HAN.out⟩
  · have hne : (r1 != 0) = true := by simpa using he
    have HBX : Hid (Below W.heap.size W (W.alloc (.cells #[.int .i64 z, .slice am nl capm] 27))) := (Below.refl _ _).alloc (Nat.le_refl _) _
    have HE : Hid (∀ W', AddAns W base b mb l T L S n r1 W') := fun W' => .inl ⟨by rw [HR1.out]; exact he, HR1.out.symm⟩
    clear h hS hM hf ht hb0 hT hLr hN hfin hsm hr0 hr1 HAO HR0 HR1 hP
    go_enter Tryz.func11, Tryz.ntmps11
    go_wp2_with (first
      | (go_at_call 28; (with_reducible refine (HF.out _ HBX.out).mono ?_); rintro e w1 ⟨rfl, hb1⟩; obtain ⟨s1, k0, hb1⟩ := boxed hb1 (by simp); have B1 := hidP hb1; clear k0 hb1 HF HBX))
    go_ret
    exact ⟨r1, rfl, B1.out.mono hbW, HE.out _⟩
end Go.Proofs.YtfekmlblldhieaaGreatDoor.Wt
