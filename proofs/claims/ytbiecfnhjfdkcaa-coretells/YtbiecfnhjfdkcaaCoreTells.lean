/- The statement CoreTells: whatever numbers a machine is made of and wherever an arc is put, Bits and Count tell of it, for every input and without any condition. -/
import Derived.Test.YtbiecfnhjfdkcaaMd
import Derived.Test.YtbiecfnhjfdkcaaMcX
import Derived.Test.YtbiecfnhjfdkcaaMcN
import Derived.Test.YtbiecfnhjfdkcaaKs
import Derived.Lib.SmallJoins
import Derived.ChangeOld
import Derived.Below
namespace Go.Proofs.Ytbiecfnhjfdkcaa.coreTells
open Go.ChangeShapes Go.WideShapes Go.ChangeAt Go.RowKit
open Go.Proofs.Ytbiecfnhjfdkcaa.Pl Go.Proofs.Ytbiecfnhjfdkcaa.Wt
set_option linter.unusedVariables false
set_option linter.unusedSimpArgs false

theorem own : ownKnob Try.prog.godebug = none := by kernel_rfl
theorem laidOut : laidOutB Try.prog = true := by kernel_rfl
theorem len_arcN {l : List St} {j : Nat} (h : j < l.length) : (el l j).2.length ≤ arcN l := by
  induction l generalizing j with
  | nil => simp at h
  | cons s l ih =>
    cases j with
    | zero => rw [el_zero]; simp [arcN]
    | succ j => rw [el_succ]; have := ih (j := j) (by simpa using h); simp only [arcN]; omega
theorem ok_right {m : Mc} (h : faultM m = 0) : okM m := by
  have h1 := right_size (z := m.1) (l := m.2) h
  refine ⟨by omega, fun j hj => ?_⟩
  have := len_arcN hj
  omega
theorem made6 (v : Value) (r : Rw) (full : Bool) (w : World) (h : RawV w v r) (hok : okR r) (hwf : wfR r) :
    Calls Try.prog 9 #[v, .int .i64 6, .bool full] w fun e w' => ∃ vs, e = .returned (.agg #[.int .i64 (madeM r 6 full).1, vs]) ∧ OwnSts w' w.heap.size vs (madeM r 6 full).2 ∧ Below w.heap.size w w' := made_own v r 6 full w h hok hwf (by omega) (by omega)
theorem belowD {wa wA : World} (g : wa.drew.grownBy wA none) : Below wa.heap.size wa wA := ⟨g.os, g.tape, g.output, g.size, fun k hk => g.block k hk (by simp)⟩
/-- What is known of the world while the statement goes on. -/
structure TellW (w wx : World) (B g n cap1 T P1 C1 : Nat) (z : Int) (l : List St) (va : Value) (ar : List Ar) (pc cc : Array Value) : Prop where
  os : OwnSts wx B (.slice (some ⟨g, 0, none⟩) n cap1) l
  t : Blk wx T #[.int .i64 z, .slice (some ⟨g, 0, none⟩) n cap1] 27
  p : Blk wx P1 pc 31
  c : Blk wx C1 cc 36
  va : wx.ownsRow B 43 4 va ar.length (ar.flatMap encA)
  bw : Below w.heap.size w wx
theorem TellW.below {w wx w' : World} {B g n cap1 T P1 C1 : Nat} {z : Int} {l : List St} {va : Value} {ar : List Ar} {pc cc : Array Value} (h : TellW w wx B g n cap1 T P1 C1 z l va ar pc cc) (hb : Below wx.heap.size wx w') : TellW w w' B g n cap1 T P1 C1 z l va ar pc cc :=
  ⟨h.os.kept (grown_of_belowM hb), h.t.below hb h.t.lt, h.p.below hb h.p.lt, h.c.below hb h.c.lt, own_below' h.va hb, h.bw.trans (hb.mono h.bw.size)⟩
theorem TellW.put {w wx : World} {B g n cap1 T P1 C1 q : Nat} {z : Int} {l : List St} {va v6 : Value} {ar s : List Ar} {pc cc : Array Value} (h : TellW w wx B g n cap1 T P1 C1 z l va ar pc cc) (hB : w.heap.size ≤ g) (hT : T ≠ g) (hP : P1 ≠ g) (hC : C1 ≠ g) (hq : q < l.length) (hl : l.length = n) (h6 : wx.ownsRow B 43 4 v6 s.length (s.flatMap encA)) :
    TellW w (wx.setCell ⟨g, q * 2 + 1, none⟩ v6) B g n cap1 T P1 C1 z (l.set q ((el l q).1, s)) va ar pc cc := by
  subst hl
  obtain ⟨vs, _, hr, _⟩ := h.os.row
  exact ⟨h.os.put hq h6, h.t.setO _ _ hT, h.p.setO _ _ hP, h.c.setO _ _ hC, ownsRow_setCell_other (a := ⟨g, q * 2 + 1, none⟩) h.va (other_block (g := g) h.va hr rfl) v6, h.bw.setCell hB _⟩
theorem TellW.at {w wx : World} {B g n cap1 T P1 C1 q : Nat} {z : Int} {l : List St} {va : Value} {ar : List Ar} {pc cc : Array Value} (h : TellW w wx B g n cap1 T P1 C1 z l va ar pc cc) (hq : q < n) (hl : l.length = n) : ∃ u, wx.cell? ⟨g, q * 2 + 1, none⟩ = some u := by
  obtain ⟨vs, h1, h2, h3⟩ := h.os.row
  have h4 : q < vs.length := by omega
  rw [h1, hl] at h2
  have h5 := h2.cellAt (q * 2 + 1) (by omega)
  rw [flat_at encS_len vs q h4 1 (by omega)] at h5
  exact ⟨_, h5⟩
theorem TellW.fz {w wx : World} {B g n cap1 T P1 C1 : Nat} {z : Int} {l : List St} {va : Value} {ar : List Ar} {pc cc : Array Value} (h : TellW w wx B g n cap1 T P1 C1 z l va ar pc cc) (hl : l.length = n) (j : Nat) : wx.frozen? ⟨g, j, none⟩ = false := by
  obtain ⟨vs, h1, h2, h3⟩ := h.os.row
  rw [h1, hl] at h2
  exact h2.frozenAt j
def HeldT (T : Nat) (v : Value) (w : World) : Prop := w.cell? ⟨T, 1, none⟩ = some v
theorem HeldT.below {T : Nat} {v : Value} {w w' : World} (h : HeldT T v w) (hb : Below w.heap.size w w') : HeldT T v w' := low h hb
def HeldT2 (T : Nat) (v : Value) (ga : Nat) (p : Ar) (w : World) : Prop := w.cell? ⟨T, 1, none⟩ = some v ∧ w.cell? ⟨ga, 0, none⟩ = some (.int .i64 p.1) ∧ w.cell? ⟨ga, 1, none⟩ = some (.int .i64 p.2.1) ∧ w.cell? ⟨ga, 2, none⟩ = some (.int .i64 p.2.2.1) ∧ w.cell? ⟨ga, 3, none⟩ = some (.int .i64 p.2.2.2)
theorem HeldT2.below {T ga : Nat} {v : Value} {p : Ar} {w w' : World} (h : HeldT2 T v ga p w) (hb : Below w.heap.size w w') : HeldT2 T v ga p w' := ⟨low h.1 hb, low h.2.1 hb, low h.2.2.1 hb, low h.2.2.2.1 hb, low h.2.2.2.2 hb⟩
/-- All that Bits and Count say of the three machines. -/
theorem facts (r : Rw) (k : Int) : ∃ (z : Int) (l : List St) (n q : Nat), madeM r 6 true = (z, l) ∧ l.length = n ∧ 0 < n ∧ n ≤ 6 ∧ q < n ∧ pkR k (n : Int) = (q : Int) ∧ (el l q).2.length ≤ 4 ∧ faultM (z, l) = 0 ∧
    ∃ (l2 : List St), l2 = l.set q ((el l q).1, (el l q).2 ++ [(0, 0, 0, (q : Int))]) ∧ faultM (z, l2) = 0 ∧
    l.all (fun s => s.2.all fullA) = true ∧ l2.all (fun s => s.2.all fullA) = false ∧ arcN l2 = arcN l + 1 ∧ arcN l ≤ 24 ∧
    (0 < (el l q).2.length → ∃ l3, l3 = l.set q ((el l q).1, (el l q).2 ++ [el (el l q).2 0]) ∧ faultM (z, l3) = 0 ∧ l3.all (fun s => s.2.all fullA) = true ∧ l3.all (fun s => onceB s.2) = false ∧ l3.all (fun s => s.2.all accA) = l.all (fun s => s.2.all accA) ∧ l3.all (fun s => s.2.all freeA) = l.all (fun s => s.2.all freeA) ∧ l3.all freeS = l.all freeS) := by
  have hf := madeM_right r 6 (by omega) (by omega) true
  have hn0 : 0 < sizeM r 6 := by unfold sizeM; omega
  have hn6 : sizeM r 6 ≤ 6 := by unfold sizeM; omega
  have hln := statesM_length r (sizeM r 6) true
  have hst : ∀ s ∈ statesM r (sizeM r 6) true, s.2.length ≤ 4 ∧ s.2.all fullA = true := by
    intro s hs
    unfold statesM at hs
    simp only [List.mem_map] at hs
    obtain ⟨j, _, rfl⟩ := hs
    split
    · simp
    · refine ⟨stM_few _ _ _, ?_⟩
      rw [List.all_eq_true]
      intro a ha
      simp only [Pl.stM, List.mem_map] at ha
      obtain ⟨e, _, rfl⟩ := ha
      have := arM_full (n := sizeM r 6) e
      simp only [fullA, Bool.not_eq_true', Bool.and_eq_false_iff, decide_eq_false_iff_not]
      omega
  have hM : madeM r 6 true = (pkR r.1 (sizeM r 6), statesM r (sizeM r 6) true) := rfl
  rw [hM] at hf ⊢
  generalize statesM r (sizeM r 6) true = l at *
  generalize pkR r.1 (sizeM r 6) = z at *
  generalize sizeM r 6 = n at *
  obtain ⟨hk0, hk1⟩ := pkR_bd k (n : Int) (by omega)
  obtain ⟨q, hq⟩ : ∃ q : Nat, pkR k (n : Int) = (q : Int) := ⟨(pkR k (n : Int)).toNat, by omega⟩
  have hqn : q < n := by omega
  have hql : q < l.length := by omega
  have hel := hst _ (el_mem hql)
  have hall : l.all (fun s => s.2.all fullA) = true := List.all_eq_true.2 (fun s hs => (hst s hs).2)
  have harc : arcN l ≤ 24 := by
    have := arcN_le (l := l) (R := 4) (fun j hj => (hst _ (el_mem hj)).1)
    omega
  have hb2 : arcB l.length (0, 0, 0, (q : Int)) = true := by simp [arcB, inB]; omega
  refine ⟨z, l, n, q, rfl, hln, hn0, hn6, hqn, hq, hel.1, hf, _, rfl, right_set hf hql hb2 (by omega), hall, all_set_false hql (by simp [fullA]), ?_, harc, fun h0 => ?_⟩
  · have := arcN_set (l := l) (s := ((el l q).1, (el l q).2 ++ [((0 : Int), (0 : Int), (0 : Int), (q : Int))])) hql
    simp at this
    omega
  · have hb3 : arcB l.length (el (el l q).2 0) = true := List.all_eq_true.1 (right_st hf hql).2 _ (el_mem h0)
    refine ⟨_, rfl, right_set hf hql hb3 (by omega), ?_, ?_, ?_, ?_, ?_⟩
    · rw [all_set_same hql (by exact all_again fullA h0)]; exact hall
    · exact all_set_false hql (by exact once_twice h0)
    · exact all_set_same hql (by exact all_again accA h0)
    · exact all_set_same hql (by exact all_again freeA h0)
    · exact all_set_same hql rfl
theorem machOf {wx : World} {B : Nat} {v : Value} {z : Int} {l : List St} (h : OwnSts wx B v l) : Mach wx (.agg #[.int .i64 z, v]) (z, l) := ⟨_, rfl, h.sts⟩
theorem TellW.mach {w wx : World} {B g n cap1 T P1 C1 : Nat} {z : Int} {l : List St} {va : Value} {ar : List Ar} {pc cc : Array Value} (h : TellW w wx B g n cap1 T P1 C1 z l va ar pc cc) : Mach wx (.agg #[.int .i64 z, .slice (some ⟨g, 0, none⟩) n cap1]) (z, l) := ⟨_, rfl, h.os.sts⟩
set_option maxRecDepth 100000 in
set_option maxHeartbeats 6400000 in
theorem walk (v : Value) (m : Rw) (k : Int) (w : World) (h : RawV w v m ∧ okR m ∧ wfR m) (hk : (Lit.int .i64 k).wf = true) :
    Calls Try.prog 3 #[v, .int .i64 k] w fun e w' => e = .returned (.bool true) ∧ Below w.heap.size w w' := by
  obtain ⟨i0, hi0, hz0, hz1, hz2⟩ := info_parts infoArc
  obtain ⟨h, hok, hwf⟩ := h
  have HI : Hid (RawV w v m) := h
  have HOK : Hid (okR m) := hok
  have HWF : Hid (wfR m) := hwf
  have HKW : Hid ((Lit.int .i64 k).wf = true) := hk
  obtain ⟨z, l, n, q, hM, hl, hn0, hn6, hq, hpk, hel4, hf, l2, hl2, hf2, hfull, hfull2, harc2, harc, h3⟩ := facts m k
  have HMM : Hid (madeM m 6 true = (z, l)) := hM
  have HLL : Hid (l.length = n) := hl
  have HPK : Hid (pkR k (n : Int) = (q : Int)) := hpk
  have HL2 : Hid (l2.length = n) := by show _ = _; rw [hl2]; simp [hl]
  have HBA : Hid (∀ (a : Option Addr) (cap : Nat) (w : World), Mach w (.agg #[.int .i64 z, .slice a n cap]) (z, l) → Calls Try.prog 11 #[.agg #[.int .i64 z, .slice a n cap]] w fun e w' => e = .returned (.tuple #[.agg #[.bool (l.all (fun s => s.2.all accA)), .bool true, .bool (true && l.all (fun s => onceB s.2)), .bool (l.all (fun s => sortB s.2)), .bool (l.all (fun s => s.2.all freeA) && l.all freeS)], .int .i64 0]) ∧ Below w.heap.size w w') := by
    intro a cap w hM
    rw [← hl] at hM ⊢
    exact bits_ok z a cap l w hM (ok_right hf) hf _ _ _ _ _ _ rfl hfull rfl rfl rfl rfl
  have HBB : Hid (∀ (a : Option Addr) (cap : Nat) (w : World), Mach w (.agg #[.int .i64 z, .slice a n cap]) (z, l2) → Calls Try.prog 11 #[.agg #[.int .i64 z, .slice a n cap]] w fun e w' => e = .returned (.tuple #[.agg #[.bool (l2.all (fun s => s.2.all accA)), .bool false, .bool false, .bool (l2.all (fun s => sortB s.2)), .bool (l2.all (fun s => s.2.all freeA) && l2.all freeS)], .int .i64 0]) ∧ Below w.heap.size w w') := by
    intro a cap w hM
    rw [← HL2.out] at hM ⊢
    exact bits_ok z a cap l2 w hM (ok_right hf2) hf2 _ _ _ _ _ _ rfl hfull2 rfl rfl rfl rfl
  have HCA : Hid (∀ (a : Option Addr) (cap : Nat) (w : World), Mach w (.agg #[.int .i64 z, .slice a n cap]) (z, l) → Calls Try.prog 12 #[.agg #[.int .i64 z, .slice a n cap]] w fun e w' => e = .returned (.tuple #[.agg #[.int .i64 (n : Int), .int .i64 (arcN l : Int), .int .i64 (finN l : Int)], .int .i64 0]) ∧ Below w.heap.size w w') :=
    fun a cap w hM => count_any _ (z, l) w hM (ok_right hf) 0 _ _ _ hf (by rw [if_pos rfl]; exact ⟨by rw [← hl], rfl, rfl⟩)
  have HCB : Hid (∀ (a : Option Addr) (cap : Nat) (w : World), Mach w (.agg #[.int .i64 z, .slice a n cap]) (z, l2) → Calls Try.prog 12 #[.agg #[.int .i64 z, .slice a n cap]] w fun e w' => e = .returned (.tuple #[.agg #[.int .i64 (n : Int), .int .i64 ((arcN l : Int) + 1), .int .i64 (finN l2 : Int)], .int .i64 0]) ∧ Below w.heap.size w w') :=
    fun a cap w hM => count_any _ (z, l2) w hM (ok_right hf2) 0 _ _ _ hf2 (by rw [if_pos rfl]; exact ⟨by rw [← HL2.out], by rw [harc2]; simp, rfl⟩)
  have H3 : Hid (0 < (el l q).2.length → ∃ l3, l3 = l.set q ((el l q).1, (el l q).2 ++ [el (el l q).2 0]) ∧ ∃ x4 : Bool, ∀ (a : Option Addr) (cap : Nat) (w : World), Mach w (.agg #[.int .i64 z, .slice a n cap]) (z, l3) → Calls Try.prog 11 #[.agg #[.int .i64 z, .slice a n cap]] w fun e w' => e = .returned (.tuple #[.agg #[.bool (l.all (fun s => s.2.all accA)), .bool true, .bool false, .bool x4, .bool (l.all (fun s => s.2.all freeA) && l.all freeS)], .int .i64 0]) ∧ Below w.heap.size w w') := by
    intro h0
    obtain ⟨l3, e3, f3, g1, g2, g3, g4, g5⟩ := h3 h0
    refine ⟨l3, e3, l3.all (fun s => sortB s.2), fun a cap w hM => ?_⟩
    have hl3 : l3.length = n := by rw [e3]; simp [hl]
    rw [← hl3] at hM ⊢
    exact bits_ok z a cap l3 w hM (ok_right f3) f3 _ _ _ _ _ _ g3 g1 g2 rfl g4 g5
  have HEL : Hid (l2 = l.set q ((el l q).1, (el l q).2 ++ [(0, 0, 0, (q : Int))])) := hl2
  generalize l.all (fun s => s.2.all accA) = xA at *
  generalize (true && l.all (fun s => onceB s.2)) = x3 at *
  generalize l.all (fun s => sortB s.2) = x4 at *
  generalize (l.all (fun s => s.2.all freeA) && l.all freeS) = xP at *
  generalize l2.all (fun s => s.2.all accA) = y1b at *
  generalize l2.all (fun s => sortB s.2) = y4b at *
  generalize (l2.all (fun s => s.2.all freeA) && l2.all freeS) = y5b at *
  generalize arcN l = N1 at *
  generalize (finN l : Int) = F1 at *
  generalize (finN l2 : Int) = F2 at *
  clear hM hl hpk hl2 hf hf2 hfull hfull2 harc2 h3 hok hwf hk
  obtain ⟨vs, rfl, hN⟩ := h
  obtain ⟨ra, rcap, rfl, _⟩ := hN.get
  clear hN
  have hnp : (0 : Int) < (n : Int) := by omega
  have hq0 : (0 : Int) ≤ (q : Int) := by omega
  have hq1 : (q : Int) < (n : Int) := by omega
  have hnot : ∀ (x : Bool) (w : World), (Op.unary .not (.bool x)).run Try.prog w = .ok (.bool (!x)) w := fun _ _ => rfl
  have HB0 : Hid (Below w.heap.size w (w.alloc (.cells #[.int .i64 m.1, .slice ra m.2.length rcap] 24))) := (Below.refl _ _).alloc (Nat.le_refl _) _
  go_enter Try.func3, Try.ntmps3
  go_upto_region 6 with (first
    | (go_at_call 9; (with_reducible refine (made6 _ m true _ (HI.out.later HB0.out (Nat.le_refl _)) HOK.out HWF.out).mono ?_); rintro e w1 ⟨vs1, rfl, ho, hb⟩; rw [HMM.out] at ho ⊢; simp only at ho ⊢; obtain ⟨s1, b1, hb1⟩ := boxed hb (by simp); obtain ⟨rvs, rl1, rl2, rl3⟩ := ho.row; rw [rl1, HLL.out] at rl2; obtain ⟨g, cap1, hvs, hgb, _⟩ := rl2.form hn0; subst hvs; have hgw : g < w1.heap.size := (rl2.lt g rfl).2; have hgB : w.heap.size + 1 ≤ g := (by have h9 := hgb; simpa using h9); obtain ⟨vf, hvf⟩ : ∃ vf, vf = (el rvs q).2 := ⟨_, rfl⟩; have hva0 := (rl3 q (by rw [HLL.out]; exact hq)).2; rw [← hvf] at hva0; obtain ⟨av, cv, hva⟩ := own_sl hva0; have j0 := rl2.cellAt (q * 2 + 1) (by omega); rw [flat_at encS_len rvs q (by rw [rl1, HLL.out]; exact hq) 1 (by omega)] at j0; have j1 : w1.cell? ⟨g, q * 2 + 1, none⟩ = some vf := (j0.trans (congrArg some hvf.symm)); subst hva; have HVA : Hid (w1.ownsRow (w.heap.size + 1) 43 4 (.slice av (el l q).2.length cv) (el l q).2.length ((el l q).2.flatMap encA)) := (by have h9 := hva0; simp only [World.size_alloc] at h9; exact h9); have HOS : Hid (OwnSts w1 (w.heap.size + 1) (.slice (some ⟨g, 0, none⟩) n cap1) l) := (by have h9 := ho; simp only [World.size_alloc] at h9; exact h9); have HB1 : Hid (Below w.heap.size w w1) := hb1; clear hb hb1 b1 ho rl2 rl3 rl1 j0 hva0 hvf hgb)
    | (go_at_call 10; (with_reducible refine (picked_R _ _ _ HKW.out (by omega) (by omega) _ HPK.out).mono ?_); rintro e w9 ⟨rfl, rfl⟩)
    | (go_at_call 11; (with_reducible refine (HBA.out _ _ _ (machOf (HOS.out.kept (World.grownBy_alloc _ _ _)))).mono ?_); rintro e w2 ⟨rfl, hb⟩; obtain ⟨s2, b2, hb2⟩ := boxed hb (by simp); have BT2 : Hid (Blk w2 w1.heap.size #[.int .i64 z, .slice (some ⟨g, 0, none⟩) n cap1] 27) := b2; have d0 := b2.cell 0 (v := .int .i64 z) rfl; have d1 := b2.cell 1 (v := .slice (some ⟨g, 0, none⟩) n cap1) rfl; have j2 := low j1 hb2; have gw2 : g < w2.heap.size := World.block_lt_of_cell? _ _ j2; have HB2 : Hid (Below w1.heap.size w1 w2) := hb2; have T2 : w1.heap.size < w2.heap.size := b2.lt; clear b2 hb2 hb)
    | (go_at_call 12; (with_reducible refine (HCA.out _ _ _ (machOf ((HOS.out.kept (grown_of_belowM HB2.out)).kept (World.grownBy_alloc _ _ _)))).mono ?_); rintro e w3 ⟨rfl, hb⟩; obtain ⟨s3, b3, hb3⟩ := boxed hb (by simp); have BP3 : Hid (Blk w3 w2.heap.size #[.bool xA, .bool true, .bool x3, .bool x4, .bool xP] 31) := b3; have d2 := low d1 hb3; have j3 := low j2 hb3; have T3 : w1.heap.size < w3.heap.size := World.block_lt_of_cell? _ _ d2; have gw3 : g < w3.heap.size := World.block_lt_of_cell? _ _ j3; have P3 : w2.heap.size < w3.heap.size := b3.lt; have HB3 : Hid (Below w2.heap.size w2 w3) := hb3; clear b3 hb3 hb))
  have HTW0 : TellW w (w3.alloc (.cells #[.int .i64 (n : Int), .int .i64 (N1 : Int), .int .i64 F1] 36)) (w.heap.size + 1) g n cap1 w1.heap.size w2.heap.size w3.heap.size z l (.slice av (el l q).2.length cv) (el l q).2 #[.bool xA, .bool true, .bool x3, .bool x4, .bool xP] #[.int .i64 (n : Int), .int .i64 (N1 : Int), .int .i64 F1] := by
    have hbb : Below w1.heap.size w1 (w3.alloc (.cells #[.int .i64 (n : Int), .int .i64 (N1 : Int), .int .i64 F1] 36)) := (HB2.out.trans (HB3.out.mono HB2.out.size)).alloc (by omega) _
    exact ⟨HOS.out.kept (grown_of_belowM hbb), (BT2.out.below HB3.out BT2.out.lt).alloc _, BP3.out.alloc _, Blk.made _ _ _, own_below' HVA.out hbb, HB1.out.trans (hbb.mono HB1.out.size)⟩
  have hgT : w1.heap.size ≠ g := by omega
  have hgP : w2.heap.size ≠ g := by omega
  have hgC : w3.heap.size ≠ g := by omega
  have hB0 : w.heap.size ≤ g := by omega
  have HS0 : HeldT w1.heap.size (.slice (some ⟨g, 0, none⟩) n cap1) (w3.alloc (.cells #[.int .i64 (n : Int), .int .i64 (N1 : Int), .int .i64 F1] 36)) := HTW0.t.cell 1 rfl
  have hBw : w.heap.size + 1 ≤ (w3.alloc (.cells #[.int .i64 (n : Int), .int .i64 (N1 : Int), .int .i64 F1] 36)).heap.size := by simp; omega
  clear HOS BT2 BP3 HB1 HB2 HB3 HVA d0 d1 d2 j1 j2 j3
  generalize w3.alloc (.cells #[.int .i64 (n : Int), .int .i64 (N1 : Int), .int .i64 F1] 36) = wa at HTW0 HS0 hBw ⊢
  generalize w3.heap.size = C1 at HTW0 hgC ⊢
  generalize w2.heap.size = P1 at HTW0 hgP ⊢
  generalize w1.heap.size = T at HTW0 hgT HS0 ⊢
  clear P3 T3 T2 gw2 gw3 s1 s2 s3 hgw
  generalize hBB : w.heap.size + 1 = B at HTW0 hBw hgB
  clear hBB
  have HE3 : Hid (l.set q ((el l q).1, (el l q).2 ++ [(0, 0, 0, (q : Int))]) = l2) := HEL.out.symm
  have HFE : Hid (∀ s, (l2.set q ((el l2 q).1, s)) = l.set q ((el l q).1, s)) := by
    intro s
    have e1 : el l2 q = ((el l q).1, (el l q).2 ++ [(0, 0, 0, (q : Int))]) := by rw [HEL.out, Pl.el_set (by rw [HLL.out]; exact hq), if_pos rfl]
    rw [e1, HEL.out, List.set_set]
  generalize (el l q).2 = ar at *
  have HTW : Hid (TellW w wa B g n cap1 T P1 C1 z l (.slice av ar.length cv) ar #[.bool xA, .bool true, .bool x3, .bool x4, .bool xP] #[.int .i64 (n : Int), .int .i64 (N1 : Int), .int .i64 F1]) := HTW0
  clear HTW0
  have hBw' := hBw
  go_cut [] (fun wx => Hid (TellW w wx B g n cap1 T P1 C1 z l2 (.slice av ar.length cv) ar #[.bool xA, .bool true, .bool x3, .bool x4, .bool xP] #[.int .i64 (n : Int), .int .i64 (N1 : Int), .int .i64 F1]))
  case first =>
    obtain ⟨vA, wA, rA, oA, gA⟩ := run_append_rows (P := Try.prog) (w := wa.drew) encA_len (by decide) encA_one 39 39 wa.heap.size 43 i0 _ 32 Try.underlying39 hi0 hz0 hz1 hz2 rfl (.slice none 0 0) 0 [] (World.ownsRow_nil _ _ _ _) (.slice av ar.length cv) ar (Row.ofOwn encA_len HTW.out.va rfl) (by unfold maxLen; omega) (by omega) (Nat.le_refl _)
    have oA := own_zero oA
    have bA : Below wa.heap.size wa wA := belowD gA
    obtain ⟨vA2, wA2, rA2, oA2, gA2⟩ := run_append_rows (P := Try.prog) (w := wA.alloc (.cells #[.int .i64 0, .int .i64 0, .int .i64 0, .int .i64 (q : Int)] 43)) encA_len (by decide) encA_one 39 39 wa.heap.size 43 i0 _ 32 Try.underlying39 hi0 hz0 hz1 hz2 rfl vA ar.length (ar.flatMap encA) (oA.alloc _) _ [((0 : Int), (0 : Int), (0 : Int), (q : Int))] (one_arc wA ((0 : Int), (0 : Int), (0 : Int), (q : Int))) (by simp; unfold maxLen; omega) (by simp; omega) (by have := bA.size; simp; omega)
    have oA2 := own_snoc oA2 rfl
    have bA2 : Below wa.heap.size wa wA2 := bA.trans (((Below.refl _ _).alloc bA.size _).grown gA2 (by have := bA.size; simp; omega) (own_geK oA))
    obtain ⟨vB, wB, rB, oB, gB⟩ := run_append_rows (P := Try.prog) (w := wa.drew.alloc (.cells #[.int .i64 0, .int .i64 0, .int .i64 0, .int .i64 (q : Int)] 43)) encA_len (by decide) encA_one 39 39 wa.heap.size 43 i0 _ 32 Try.underlying39 hi0 hz0 hz1 hz2 rfl (.slice none 0 0) 0 [] (World.ownsRow_nil _ _ _ _) (.slice av ar.length cv) ar (Row.ofOwn encA_len (World.ownsRow.alloc (w := wa.drew) HTW.out.va _) rfl) (by unfold maxLen; omega) (by omega) (by rw [World.size_alloc]; exact Nat.le_succ _)
    have oB := own_zero oB
    have bB0 : Below (wa.drew.alloc (.cells #[.int .i64 0, .int .i64 0, .int .i64 0, .int .i64 (q : Int)] 43)).heap.size (wa.drew.alloc (.cells #[.int .i64 0, .int .i64 0, .int .i64 0, .int .i64 (q : Int)] 43)) wB := (Below.refl _ _).grown (row := none) gB (Nat.le_refl _) (by simp)
    have bB : Below wa.heap.size wa wB := (((Below.refl wa.heap.size wa).drew.alloc (Nat.le_refl _) _)).trans (bB0.mono (by rw [World.size_alloc]; exact Nat.le_succ _))
    obtain ⟨vB2, wB2, rB2, oB2, gB2⟩ := run_append_rows (P := Try.prog) (w := wB) encA_len (by decide) encA_one 39 39 wa.heap.size 43 i0 _ 32 Try.underlying39 hi0 hz0 hz1 hz2 rfl vB ar.length (ar.flatMap encA) oB _ [((0 : Int), (0 : Int), (0 : Int), (q : Int))] (Row.later (one_arc wa.drew ((0 : Int), (0 : Int), (0 : Int), (q : Int))) bB0 (Nat.le_refl _)) (by simp; unfold maxLen; omega) (by simp; omega) bB.size
    have oB2 := own_snoc oB2 rfl
    have bB2 : Below wa.heap.size wa wB2 := bB.trans ((Below.refl _ _).grown gB2 bB.size (own_geK oB))
    have HSa : HeldT T (.slice (some ⟨g, 0, none⟩) n cap1) wa.drew := HS0
    have HSA : HeldT T (.slice (some ⟨g, 0, none⟩) n cap1) wA := HeldT.below HS0 bA
    have HSA1 : HeldT T (.slice (some ⟨g, 0, none⟩) n cap1) (wA.alloc (.cells #[.int .i64 0, .int .i64 0, .int .i64 0, .int .i64 (q : Int)] 43)) := HeldT.below HSA ((Below.refl _ _).alloc (Nat.le_refl _) _)
    have HSA2 : HeldT T (.slice (some ⟨g, 0, none⟩) n cap1) wA2 := HeldT.below HS0 bA2
    have HSB0 : HeldT T (.slice (some ⟨g, 0, none⟩) n cap1) (wa.drew.alloc (.cells #[.int .i64 0, .int .i64 0, .int .i64 0, .int .i64 (q : Int)] 43)) := HeldT.below (w := wa.drew) HS0 ((Below.refl _ _).alloc (Nat.le_refl _) _)
    have HSB : HeldT T (.slice (some ⟨g, 0, none⟩) n cap1) wB := HeldT.below HS0 bB
    have HSB2 : HeldT T (.slice (some ⟨g, 0, none⟩) n cap1) wB2 := HeldT.below HS0 bB2
    obtain ⟨aA, cA, hvA⟩ := own_sl oA
    subst hvA
    obtain ⟨aB, cB, hvB⟩ := own_sl oB
    subst hvB
    obtain ⟨aA2, cA2, hvA2⟩ := own_sl oA2
    replace hvA2 : vA2 = Value.slice aA2 (ar.length + 1) cA2 := hvA2.trans (by simp)
    subst hvA2
    obtain ⟨aB2, cB2, hvB2⟩ := own_sl oB2
    replace hvB2 : vB2 = Value.slice aB2 (ar.length + 1) cB2 := hvB2.trans (by simp)
    subst hvB2
    have TWA : Hid (TellW w wA2 B g n cap1 T P1 C1 z l (.slice av ar.length cv) ar #[.bool xA, .bool true, .bool x3, .bool x4, .bool xP] #[.int .i64 (n : Int), .int .i64 (N1 : Int), .int .i64 F1]) := HTW.out.below bA2
    have TPA : Hid (TellW w (wA2.setCell ⟨g, q * 2 + 1, none⟩ (.slice aA2 (ar.length + 1) cA2)) B g n cap1 T P1 C1 z (l.set q ((el l q).1, ar ++ [((0 : Int), (0 : Int), (0 : Int), (q : Int))])) (.slice av ar.length cv) ar #[.bool xA, .bool true, .bool x3, .bool x4, .bool xP] #[.int .i64 (n : Int), .int .i64 (N1 : Int), .int .i64 F1]) := TWA.out.put hB0 hgT hgP hgC (by rw [HLL.out]; exact hq) HLL.out (own_mono' oA2 hBw)
    obtain ⟨eA0, eA1⟩ := TWA.out.at hq HLL.out
    have fA := TWA.out.fz HLL.out (q * 2 + 1)
    have TWB : Hid (TellW w wB2 B g n cap1 T P1 C1 z l (.slice av ar.length cv) ar #[.bool xA, .bool true, .bool x3, .bool x4, .bool xP] #[.int .i64 (n : Int), .int .i64 (N1 : Int), .int .i64 F1]) := HTW.out.below bB2
    have TPB : Hid (TellW w (wB2.setCell ⟨g, q * 2 + 1, none⟩ (.slice aB2 (ar.length + 1) cB2)) B g n cap1 T P1 C1 z (l.set q ((el l q).1, ar ++ [((0 : Int), (0 : Int), (0 : Int), (q : Int))])) (.slice av ar.length cv) ar #[.bool xA, .bool true, .bool x3, .bool x4, .bool xP] #[.int .i64 (n : Int), .int .i64 (N1 : Int), .int .i64 F1]) := TWB.out.put hB0 hgT hgP hgC (by rw [HLL.out]; exact hq) HLL.out (own_mono' oB2 hBw)
    obtain ⟨eB0, eB1⟩ := TWB.out.at hq HLL.out
    have fB := TWB.out.fz HLL.out (q * 2 + 1)
    refine region_anyL (HeldT T (.slice (some ⟨g, 0, none⟩) n cap1)) 11 (by kernel_rfl) ?_
    refine anyL_take (i := 0) (v := ?v0_1) at0 (by kernel_rfl) (by kernel_rfl) (by kernel_rfl) (by kernel_rfl) (fun _ _ _ h => h) rfl ?y0_1 HSa ?r0_1
    case y0_1 => intro wx hx; have h1 : wx.cell? ⟨T, 1, none⟩ = some (.slice (some ⟨g, 0, none⟩) n cap1) := hx; go_simp; try (with_reducible rfl)
    simp only [Act.put, List.setIfInBounds_toArray, List.set_cons_zero, List.set_cons_succ]
    refine anyL_take (i := 1) (v := ?v1_2) (atS at0) (by kernel_rfl) (by kernel_rfl) (by kernel_rfl) (by kernel_rfl) (fun _ _ _ h => h) rfl ?y1_2 HSa ?r1_2
    case y1_2 => intro wx hx; have h1 : wx.cell? ⟨T, 1, none⟩ = some (.slice (some ⟨g, 0, none⟩) n cap1) := hx; go_simp; try (with_reducible rfl)
    simp only [Act.put, List.setIfInBounds_toArray, List.set_cons_zero, List.set_cons_succ]
    refine anyL_take (i := 2) (v := ?v2_3) (atS (atS at0)) (by kernel_rfl) (by kernel_rfl) (by kernel_rfl) (by kernel_rfl) (fun _ _ _ h => h) rfl ?y2_3 HSa ?r2_3
    case y2_3 => intro wx hx; have h1 : wx.cell? ⟨T, 1, none⟩ = some (.slice (some ⟨g, 0, none⟩) n cap1) := hx; go_simp; try (with_reducible rfl)
    simp only [Act.put, List.setIfInBounds_toArray, List.set_cons_zero, List.set_cons_succ]
    refine anyL_take (i := 3) (v := ?v3_4) (atS (atS (atS at0))) (by kernel_rfl) (by kernel_rfl) (by kernel_rfl) (by kernel_rfl) (fun _ _ _ h => h) rfl ?y3_4 HSa ?r3_4
    case y3_4 => intro wx hx; have h1 : wx.cell? ⟨T, 1, none⟩ = some (.slice (some ⟨g, 0, none⟩) n cap1) := hx; go_simp; try (with_reducible rfl)
    simp only [Act.put, List.setIfInBounds_toArray, List.set_cons_zero, List.set_cons_succ]
    refine anyL_take (i := 5) (v := ?v5_5) (atS (atS (atS (atS (atS at0))))) (by kernel_rfl) (by kernel_rfl) (by kernel_rfl) (by kernel_rfl) (fun _ _ _ h => h) rfl ?y5_5 HSa ?r5_5
    case y5_5 => intro wx hx; have h1 : wx.cell? ⟨T, 1, none⟩ = some (.slice (some ⟨g, 0, none⟩) n cap1) := hx; go_simp; try (with_reducible rfl)
    simp only [Act.put, List.setIfInBounds_toArray, List.set_cons_zero, List.set_cons_succ]
    refine anyL_take (i := 6) (v := ?v6_6) (atS (atS (atS (atS (atS (atS at0)))))) (by kernel_rfl) (by kernel_rfl) (by kernel_rfl) (by kernel_rfl) (fun _ _ _ h => h) rfl ?y6_6 HSa ?r6_6
    case y6_6 => intro wx hx; have h1 : wx.cell? ⟨T, 1, none⟩ = some (.slice (some ⟨g, 0, none⟩) n cap1) := hx; go_simp; try (with_reducible rfl)
    simp only [Act.put, List.setIfInBounds_toArray, List.set_cons_zero, List.set_cons_succ]
    refine anyL_br (rs := [4, 7]) (by kernel_rfl) (by simp) (List.forall_mem_cons.2 ⟨⟨_, (atS (atS (atS (atS at0)))), rfl, fun K hK => ?_⟩, List.forall_mem_cons.2 ⟨⟨_, (atS (atS (atS (atS (atS (atS (atS at0))))))), rfl, fun K hK => ?_⟩, fun _ h => absurd h (by simp)⟩⟩)
    · skip
      refine wp_append_run (.const (.slice none 0 0)) (.tmp 44) 39 (by rfl) (by rfl) (by rfl) rA (hK _ _ (.inr HSA) ?_)
      simp only [Act.put, List.setIfInBounds_toArray, List.set_cons_zero, List.set_cons_succ]
      refine anyL_one (i := 7) (atS (atS (atS (atS (atS (atS (atS at0))))))) (by kernel_rfl) rfl (fun K hK => ?_)
      go_simp
      refine hK _ _ (.inr HSA1) ?_
      try simp only [Act.put, List.setIfInBounds_toArray, List.set_cons_zero, List.set_cons_succ]
      refine anyL_one (i := 8) (atS (atS (atS (atS (atS (atS (atS (atS at0)))))))) (by kernel_rfl) rfl (fun K hK => ?_)
      refine wp_append_run (.tmp 45) (.tmp 48) 39 (by rfl) (by rfl) (by rfl) rA2 (hK _ _ (.inr HSA2) ?_)
      simp only [Act.put, List.setIfInBounds_toArray, List.set_cons_zero, List.set_cons_succ]
      refine anyL_one (i := 9) (atS (atS (atS (atS (atS (atS (atS (atS (atS at0))))))))) (by kernel_rfl) rfl (fun K hK => ?_)
      go_simp
      refine hK _ _ (.inr HSA2) ?_
      try simp only [Act.put, List.setIfInBounds_toArray, List.set_cons_zero, List.set_cons_succ]
      refine anyL_one (i := 10) (atS (atS (atS (atS (atS (atS (atS (atS (atS (atS at0)))))))))) (by kernel_rfl) rfl (fun K hK => ?_)
      go_simp
      refine hK _ _ (.inr HSA2) ?_
      try simp only [Act.put, List.setIfInBounds_toArray, List.set_cons_zero, List.set_cons_succ]
      refine anyL_one (i := 11) (atS (atS (atS (atS (atS (atS (atS (atS (atS (atS (atS at0))))))))))) (by kernel_rfl) rfl (fun K hK => ?_)
      go_simp
      refine hK _ _ (.inl rfl) (anyL_done (by kernel_rfl) (NoPanic.normal ?_))
      try simp only [Act.put, List.setIfInBounds_toArray, List.set_cons_zero, List.set_cons_succ]
      go_wp2
      go_meet
      case rel => (show TellW _ _ _ _ _ _ _ _ _ _ _ _ _ _ _; have h := TPA.out; rw [HE3.out] at h; exact h)
    · skip
      go_simp
      refine hK _ _ (.inr HSB0) ?_
      try simp only [Act.put, List.setIfInBounds_toArray, List.set_cons_zero, List.set_cons_succ]
      refine anyL_one (i := 4) (atS (atS (atS (atS at0)))) (by kernel_rfl) rfl (fun K hK => ?_)
      refine wp_append_run (.const (.slice none 0 0)) (.tmp 44) 39 (by rfl) (by rfl) (by rfl) rB (hK _ _ (.inr HSB) ?_)
      simp only [Act.put, List.setIfInBounds_toArray, List.set_cons_zero, List.set_cons_succ]
      refine anyL_one (i := 8) (atS (atS (atS (atS (atS (atS (atS (atS at0)))))))) (by kernel_rfl) rfl (fun K hK => ?_)
      refine wp_append_run (.tmp 45) (.tmp 48) 39 (by rfl) (by rfl) (by rfl) rB2 (hK _ _ (.inr HSB2) ?_)
      simp only [Act.put, List.setIfInBounds_toArray, List.set_cons_zero, List.set_cons_succ]
      refine anyL_one (i := 9) (atS (atS (atS (atS (atS (atS (atS (atS (atS at0))))))))) (by kernel_rfl) rfl (fun K hK => ?_)
      go_simp
      refine hK _ _ (.inr HSB2) ?_
      try simp only [Act.put, List.setIfInBounds_toArray, List.set_cons_zero, List.set_cons_succ]
      refine anyL_one (i := 10) (atS (atS (atS (atS (atS (atS (atS (atS (atS (atS at0)))))))))) (by kernel_rfl) rfl (fun K hK => ?_)
      go_simp
      refine hK _ _ (.inr HSB2) ?_
      try simp only [Act.put, List.setIfInBounds_toArray, List.set_cons_zero, List.set_cons_succ]
      refine anyL_one (i := 11) (atS (atS (atS (atS (atS (atS (atS (atS (atS (atS (atS at0))))))))))) (by kernel_rfl) rfl (fun K hK => ?_)
      go_simp
      refine hK _ _ (.inl rfl) (anyL_done (by kernel_rfl) (NoPanic.normal ?_))
      try simp only [Act.put, List.setIfInBounds_toArray, List.set_cons_zero, List.set_cons_succ]
      go_wp2
      go_meet
      case rel => (show TellW _ _ _ _ _ _ _ _ _ _ _ _ _ _ _; have h := TPB.out; rw [HE3.out] at h; exact h)
  case rest =>
    have HTW2 : Hid (TellW w wc B g n cap1 T P1 C1 z l2 (.slice av ar.length cv) ar #[.bool xA, .bool true, .bool x3, .bool x4, .bool xP] #[.int .i64 (n : Int), .int .i64 (N1 : Int), .int .i64 F1]) := hcut
    clear hcut HS0
    have T0 := HTW2.out.t.cell 0 (v := .int .i64 z) rfl
    have T1 := HTW2.out.t.cell 1 (v := .slice (some ⟨g, 0, none⟩) n cap1) rfl
    by_cases hL : ar.length = 0
    · go_wp2_with (first
        | (go_at_call 11; (with_reducible refine (HBB.out _ _ _ HTW2.out.mach).mono ?_); rintro e w6 ⟨rfl, hb6⟩; have TW6 : Hid (TellW w w6 B g n cap1 T P1 C1 z l2 (.slice av ar.length cv) ar #[.bool xA, .bool true, .bool x3, .bool x4, .bool xP] #[.int .i64 (n : Int), .int .i64 (N1 : Int), .int .i64 F1]) := HTW2.out.below hb6; have c6 := TW6.out.t.cell 0 (v := .int .i64 z) rfl; have c7 := TW6.out.t.cell 1 (v := .slice (some ⟨g, 0, none⟩) n cap1) rfl; have T6 := TW6.out.t.lt; clear hb6)
        | (go_at_call 12; (with_reducible refine (HCB.out _ _ _ ((TW6.out.below ((Below.refl _ _).alloc (Nat.le_refl _) _)).mach)).mono ?_); rintro e w7 ⟨rfl, hb7⟩; obtain ⟨s7, b7, hb7'⟩ := boxed hb7 (by simp); have TW7 : Hid (TellW w w7 B g n cap1 T P1 C1 z l2 (.slice av ar.length cv) ar #[.bool xA, .bool true, .bool x3, .bool x4, .bool xP] #[.int .i64 (n : Int), .int .i64 (N1 : Int), .int .i64 F1]) := TW6.out.below hb7'; have u1 := TW7.out.p.cell 1 (v := .bool true) rfl; have v0 := TW7.out.c.cell 0 (v := .int .i64 (n : Int)) rfl; have v1 := TW7.out.c.cell 1 (v := .int .i64 (N1 : Int)) rfl; have y1 := b7.cell 1 (v := .bool false) rfl; have y2 := b7.cell 2 (v := .bool false) rfl; have P7 := TW7.out.p.lt; have C7 := TW7.out.c.lt; have Y7 := b7.lt; have t7c := TW7.out.t.cell 1 (v := .slice (some ⟨g, 0, none⟩) n cap1) rfl; have t7d := TW7.out.t.cell 0 (v := .int .i64 z) rfl; have T7 := TW7.out.t.lt; clear hb7 hb7' b7))
      go_ret
      exact ⟨rfl, (TW7.out.bw).alloc TW7.out.bw.size _⟩
    · have hLp : 0 < ar.length := by omega
      have hLn : ¬ (ar.length : Int) = 0 := by omega
      have hLb : ((ar.length : Int) == 0) = false := by simpa using hLn
      have hLi : (0 : Int) < (ar.length : Int) := by omega
      obtain ⟨l3, hl3, x4b, hbx⟩ := H3.out hLp
      have HL3 : Hid (l3 = l.set q ((el l q).1, ar ++ [el ar 0])) := hl3
      have HBX : Hid (∀ (a : Option Addr) (cap : Nat) (w : World), Mach w (.agg #[.int .i64 z, .slice a n cap]) (z, l3) → Calls Try.prog 11 #[.agg #[.int .i64 z, .slice a n cap]] w fun e w' => e = .returned (.tuple #[.agg #[.bool xA, .bool true, .bool false, .bool x4b, .bool xP], .int .i64 0]) ∧ Below w.heap.size w w') := hbx
      clear hl3 hbx
      obtain ⟨ga, gcap, hga, _, _⟩ := HTW2.out.va.form hLp
      obtain ⟨rfl, rfl⟩ : av = some ⟨ga, 0, none⟩ ∧ cv = gcap := by
        simp only [Value.slice.injEq, true_and] at hga
        exact hga
      clear hga
      go_upto_region 13 with (first
        | (go_at_call 11; (with_reducible refine (HBB.out _ _ _ HTW2.out.mach).mono ?_); rintro e w6 ⟨rfl, hb6⟩; have TW6 : Hid (TellW w w6 B g n cap1 T P1 C1 z l2 (.slice (some ⟨ga, 0, none⟩) ar.length cv) ar #[.bool xA, .bool true, .bool x3, .bool x4, .bool xP] #[.int .i64 (n : Int), .int .i64 (N1 : Int), .int .i64 F1]) := HTW2.out.below hb6; have c6 := TW6.out.t.cell 0 (v := .int .i64 z) rfl; have c7 := TW6.out.t.cell 1 (v := .slice (some ⟨g, 0, none⟩) n cap1) rfl; have T6 := TW6.out.t.lt; clear hb6)
        | (go_at_call 12; (with_reducible refine (HCB.out _ _ _ ((TW6.out.below ((Below.refl _ _).alloc (Nat.le_refl _) _)).mach)).mono ?_); rintro e w7 ⟨rfl, hb7⟩; obtain ⟨s7, b7, hb7'⟩ := boxed hb7 (by simp); have TW7 : Hid (TellW w w7 B g n cap1 T P1 C1 z l2 (.slice (some ⟨ga, 0, none⟩) ar.length cv) ar #[.bool xA, .bool true, .bool x3, .bool x4, .bool xP] #[.int .i64 (n : Int), .int .i64 (N1 : Int), .int .i64 F1]) := TW6.out.below hb7'; have u1 := TW7.out.p.cell 1 (v := .bool true) rfl; have v0 := TW7.out.c.cell 0 (v := .int .i64 (n : Int)) rfl; have v1 := TW7.out.c.cell 1 (v := .int .i64 (N1 : Int)) rfl; have y1 := b7.cell 1 (v := .bool false) rfl; have y2 := b7.cell 2 (v := .bool false) rfl; have P7 := TW7.out.p.lt; have C7 := TW7.out.c.lt; have Y7 := b7.lt; have t7c := TW7.out.t.cell 1 (v := .slice (some ⟨g, 0, none⟩) n cap1) rfl; have t7d := TW7.out.t.cell 0 (v := .int .i64 z) rfl; have T7 := TW7.out.t.lt; clear hb7 hb7' b7))
      have HTW3 := TW7.out.below ((Below.refl _ _).alloc (Nat.le_refl _) (.cells #[.int .i64 (n : Int), .int .i64 ((N1 : Int) + 1), .int .i64 F2] 36))
      have hBw3 : B ≤ (w7.alloc (.cells #[.int .i64 (n : Int), .int .i64 ((N1 : Int) + 1), .int .i64 F2] 36)).heap.size := by
        have h9 := (HTW3.os.row).choose_spec.2.1.lt g rfl
        omega
      clear TW6 c6 c7 T6 u1 v0 v1 y1 y2 P7 C7 Y7 t7c t7d T7 TW7 HTW2 T0 T1 s7
      generalize w7.alloc (.cells #[.int .i64 (n : Int), .int .i64 ((N1 : Int) + 1), .int .i64 F2] 36) = wa at HTW3 hBw3 ⊢
      have HTW : Hid _ := HTW3
      have hBw := hBw3
      have hcl : ∀ i, i < 4 → wa.cell? ⟨ga, i, none⟩ = (encA (el ar 0))[i]? := fun i hi => by
        have h9 := HTW3.va.cellAt i (by omega)
        have h8 := flat_at encA_len ar 0 hLp i hi
        rw [Nat.zero_mul, Nat.zero_add] at h8
        rw [h9, h8]
      have HS0 : HeldT2 T (.slice (some ⟨g, 0, none⟩) n cap1) ga (el ar 0) wa := ⟨HTW3.t.cell 1 rfl, hcl 0 (by omega), hcl 1 (by omega), hcl 2 (by omega), hcl 3 (by omega)⟩
      clear HTW3 hcl hBw3
      generalize el ar 0 = p at *
      go_cut [] (fun wx => Hid (TellW w wx B g n cap1 T P1 C1 z l3 (.slice (some ⟨ga, 0, none⟩) ar.length cv) ar #[.bool xA, .bool true, .bool x3, .bool x4, .bool xP] #[.int .i64 (n : Int), .int .i64 (N1 : Int), .int .i64 F1]))
      case first =>
        obtain ⟨vA, wA, rA, oA, gA⟩ := run_append_rows (P := Try.prog) (w := wa.drew) encA_len (by decide) encA_one 39 39 wa.heap.size 43 i0 _ 32 Try.underlying39 hi0 hz0 hz1 hz2 rfl (.slice none 0 0) 0 [] (World.ownsRow_nil _ _ _ _) (.slice (some ⟨ga, 0, none⟩) ar.length cv) ar (Row.ofOwn encA_len HTW.out.va rfl) (by unfold maxLen; omega) (by omega) (Nat.le_refl _)
        have oA := own_zero oA
        have bA : Below wa.heap.size wa wA := belowD gA
        obtain ⟨vA2, wA2, rA2, oA2, gA2⟩ := run_append_rows (P := Try.prog) (w := wA.alloc (.cells #[.int .i64 p.1, .int .i64 p.2.1, .int .i64 p.2.2.1, .int .i64 p.2.2.2] 43)) encA_len (by decide) encA_one 39 39 wa.heap.size 43 i0 _ 32 Try.underlying39 hi0 hz0 hz1 hz2 rfl vA ar.length (ar.flatMap encA) (oA.alloc _) _ [p] (one_arc wA p) (by simp; unfold maxLen; omega) (by simp; omega) (by have := bA.size; simp; omega)
        have oA2 := own_snoc oA2 rfl
        have bA2 : Below wa.heap.size wa wA2 := bA.trans (((Below.refl _ _).alloc bA.size _).grown gA2 (by have := bA.size; simp; omega) (own_geK oA))
        obtain ⟨vB, wB, rB, oB, gB⟩ := run_append_rows (P := Try.prog) (w := wa.drew.alloc (.cells #[.int .i64 p.1, .int .i64 p.2.1, .int .i64 p.2.2.1, .int .i64 p.2.2.2] 43)) encA_len (by decide) encA_one 39 39 wa.heap.size 43 i0 _ 32 Try.underlying39 hi0 hz0 hz1 hz2 rfl (.slice none 0 0) 0 [] (World.ownsRow_nil _ _ _ _) (.slice (some ⟨ga, 0, none⟩) ar.length cv) ar (Row.ofOwn encA_len (World.ownsRow.alloc (w := wa.drew) HTW.out.va _) rfl) (by unfold maxLen; omega) (by omega) (by rw [World.size_alloc]; exact Nat.le_succ _)
        have oB := own_zero oB
        have bB0 : Below (wa.drew.alloc (.cells #[.int .i64 p.1, .int .i64 p.2.1, .int .i64 p.2.2.1, .int .i64 p.2.2.2] 43)).heap.size (wa.drew.alloc (.cells #[.int .i64 p.1, .int .i64 p.2.1, .int .i64 p.2.2.1, .int .i64 p.2.2.2] 43)) wB := (Below.refl _ _).grown (row := none) gB (Nat.le_refl _) (by simp)
        have bB : Below wa.heap.size wa wB := (((Below.refl wa.heap.size wa).drew.alloc (Nat.le_refl _) _)).trans (bB0.mono (by rw [World.size_alloc]; exact Nat.le_succ _))
        obtain ⟨vB2, wB2, rB2, oB2, gB2⟩ := run_append_rows (P := Try.prog) (w := wB) encA_len (by decide) encA_one 39 39 wa.heap.size 43 i0 _ 32 Try.underlying39 hi0 hz0 hz1 hz2 rfl vB ar.length (ar.flatMap encA) oB _ [p] (Row.later (one_arc wa.drew p) bB0 (Nat.le_refl _)) (by simp; unfold maxLen; omega) (by simp; omega) bB.size
        have oB2 := own_snoc oB2 rfl
        have bB2 : Below wa.heap.size wa wB2 := bB.trans ((Below.refl _ _).grown gB2 bB.size (own_geK oB))
        have HSa : HeldT2 T (.slice (some ⟨g, 0, none⟩) n cap1) ga p wa.drew := HS0
        have HSA : HeldT2 T (.slice (some ⟨g, 0, none⟩) n cap1) ga p wA := HeldT2.below HS0 bA
        have HSA1 : HeldT2 T (.slice (some ⟨g, 0, none⟩) n cap1) ga p (wA.alloc (.cells #[.int .i64 p.1, .int .i64 p.2.1, .int .i64 p.2.2.1, .int .i64 p.2.2.2] 43)) := HeldT2.below HSA ((Below.refl _ _).alloc (Nat.le_refl _) _)
        have HSA2 : HeldT2 T (.slice (some ⟨g, 0, none⟩) n cap1) ga p wA2 := HeldT2.below HS0 bA2
        have HSB0 : HeldT2 T (.slice (some ⟨g, 0, none⟩) n cap1) ga p (wa.drew.alloc (.cells #[.int .i64 p.1, .int .i64 p.2.1, .int .i64 p.2.2.1, .int .i64 p.2.2.2] 43)) := HeldT2.below (w := wa.drew) HS0 ((Below.refl _ _).alloc (Nat.le_refl _) _)
        have HSB : HeldT2 T (.slice (some ⟨g, 0, none⟩) n cap1) ga p wB := HeldT2.below HS0 bB
        have HSB2 : HeldT2 T (.slice (some ⟨g, 0, none⟩) n cap1) ga p wB2 := HeldT2.below HS0 bB2
        obtain ⟨aA, cA, hvA⟩ := own_sl oA
        subst hvA
        obtain ⟨aB, cB, hvB⟩ := own_sl oB
        subst hvB
        obtain ⟨aA2, cA2, hvA2⟩ := own_sl oA2
        replace hvA2 : vA2 = Value.slice aA2 (ar.length + 1) cA2 := hvA2.trans (by simp)
        subst hvA2
        obtain ⟨aB2, cB2, hvB2⟩ := own_sl oB2
        replace hvB2 : vB2 = Value.slice aB2 (ar.length + 1) cB2 := hvB2.trans (by simp)
        subst hvB2
        have TWA : Hid (TellW w wA2 B g n cap1 T P1 C1 z l2 (.slice (some ⟨ga, 0, none⟩) ar.length cv) ar #[.bool xA, .bool true, .bool x3, .bool x4, .bool xP] #[.int .i64 (n : Int), .int .i64 (N1 : Int), .int .i64 F1]) := HTW.out.below bA2
        have TPA : Hid (TellW w (wA2.setCell ⟨g, q * 2 + 1, none⟩ (.slice aA2 (ar.length + 1) cA2)) B g n cap1 T P1 C1 z (l2.set q ((el l2 q).1, ar ++ [p])) (.slice (some ⟨ga, 0, none⟩) ar.length cv) ar #[.bool xA, .bool true, .bool x3, .bool x4, .bool xP] #[.int .i64 (n : Int), .int .i64 (N1 : Int), .int .i64 F1]) := TWA.out.put hB0 hgT hgP hgC (by rw [HL2.out]; exact hq) HL2.out (own_mono' oA2 hBw)
        obtain ⟨eA0, eA1⟩ := TWA.out.at hq HL2.out
        have fA := TWA.out.fz HL2.out (q * 2 + 1)
        have TWB : Hid (TellW w wB2 B g n cap1 T P1 C1 z l2 (.slice (some ⟨ga, 0, none⟩) ar.length cv) ar #[.bool xA, .bool true, .bool x3, .bool x4, .bool xP] #[.int .i64 (n : Int), .int .i64 (N1 : Int), .int .i64 F1]) := HTW.out.below bB2
        have TPB : Hid (TellW w (wB2.setCell ⟨g, q * 2 + 1, none⟩ (.slice aB2 (ar.length + 1) cB2)) B g n cap1 T P1 C1 z (l2.set q ((el l2 q).1, ar ++ [p])) (.slice (some ⟨ga, 0, none⟩) ar.length cv) ar #[.bool xA, .bool true, .bool x3, .bool x4, .bool xP] #[.int .i64 (n : Int), .int .i64 (N1 : Int), .int .i64 F1]) := TWB.out.put hB0 hgT hgP hgC (by rw [HL2.out]; exact hq) HL2.out (own_mono' oB2 hBw)
        obtain ⟨eB0, eB1⟩ := TWB.out.at hq HL2.out
        have fB := TWB.out.fz HL2.out (q * 2 + 1)
        refine region_anyL (HeldT2 T (.slice (some ⟨g, 0, none⟩) n cap1) ga p) 12 (by kernel_rfl) ?_
        refine anyL_take (i := 0) (v := ?v0_7) at0 (by kernel_rfl) (by kernel_rfl) (by kernel_rfl) (by kernel_rfl) (fun _ _ _ h => h) rfl ?y0_7 HSa ?r0_7
        case y0_7 => intro wx hx; obtain ⟨h1, h2, h3, h4, h5⟩ := hx; go_simp; try (with_reducible rfl)
        simp only [Act.put, List.setIfInBounds_toArray, List.set_cons_zero, List.set_cons_succ]
        refine anyL_take (i := 1) (v := ?v1_8) (atS at0) (by kernel_rfl) (by kernel_rfl) (by kernel_rfl) (by kernel_rfl) (fun _ _ _ h => h) rfl ?y1_8 HSa ?r1_8
        case y1_8 => intro wx hx; obtain ⟨h1, h2, h3, h4, h5⟩ := hx; go_simp; try (with_reducible rfl)
        simp only [Act.put, List.setIfInBounds_toArray, List.set_cons_zero, List.set_cons_succ]
        refine anyL_take (i := 2) (v := ?v2_9) (atS (atS at0)) (by kernel_rfl) (by kernel_rfl) (by kernel_rfl) (by kernel_rfl) (fun _ _ _ h => h) rfl ?y2_9 HSa ?r2_9
        case y2_9 => intro wx hx; obtain ⟨h1, h2, h3, h4, h5⟩ := hx; go_simp; try (with_reducible rfl)
        simp only [Act.put, List.setIfInBounds_toArray, List.set_cons_zero, List.set_cons_succ]
        refine anyL_take (i := 3) (v := ?v3_10) (atS (atS (atS at0))) (by kernel_rfl) (by kernel_rfl) (by kernel_rfl) (by kernel_rfl) (fun _ _ _ h => h) rfl ?y3_10 HSa ?r3_10
        case y3_10 => intro wx hx; obtain ⟨h1, h2, h3, h4, h5⟩ := hx; go_simp; try (with_reducible rfl)
        simp only [Act.put, List.setIfInBounds_toArray, List.set_cons_zero, List.set_cons_succ]
        refine anyL_take (i := 5) (v := ?v5_11) (atS (atS (atS (atS (atS at0))))) (by kernel_rfl) (by kernel_rfl) (by kernel_rfl) (by kernel_rfl) (fun _ _ _ h => h) rfl ?y5_11 HSa ?r5_11
        case y5_11 => intro wx hx; obtain ⟨h1, h2, h3, h4, h5⟩ := hx; go_simp; try (with_reducible rfl)
        simp only [Act.put, List.setIfInBounds_toArray, List.set_cons_zero, List.set_cons_succ]
        refine anyL_take (i := 6) (v := ?v6_12) (atS (atS (atS (atS (atS (atS at0)))))) (by kernel_rfl) (by kernel_rfl) (by kernel_rfl) (by kernel_rfl) (fun _ _ _ h => h) rfl ?y6_12 HSa ?r6_12
        case y6_12 => intro wx hx; obtain ⟨h1, h2, h3, h4, h5⟩ := hx; go_simp; try (with_reducible rfl)
        simp only [Act.put, List.setIfInBounds_toArray, List.set_cons_zero, List.set_cons_succ]
        refine anyL_take (i := 7) (v := ?v7_13) (atS (atS (atS (atS (atS (atS (atS at0))))))) (by kernel_rfl) (by kernel_rfl) (by kernel_rfl) (by kernel_rfl) (fun _ _ _ h => h) rfl ?y7_13 HSa ?r7_13
        case y7_13 => intro wx hx; obtain ⟨h1, h2, h3, h4, h5⟩ := hx; go_simp; try (with_reducible rfl)
        simp only [Act.put, List.setIfInBounds_toArray, List.set_cons_zero, List.set_cons_succ]
        refine anyL_br (rs := [4, 8]) (by kernel_rfl) (by simp) (List.forall_mem_cons.2 ⟨⟨_, (atS (atS (atS (atS at0)))), rfl, fun K hK => ?_⟩, List.forall_mem_cons.2 ⟨⟨_, (atS (atS (atS (atS (atS (atS (atS (atS at0)))))))), rfl, fun K hK => ?_⟩, fun _ h => absurd h (by simp)⟩⟩)
        · skip
          refine wp_append_run (.const (.slice none 0 0)) (.tmp 110) 39 (by rfl) (by rfl) (by rfl) rA (hK _ _ (.inr HSA) ?_)
          simp only [Act.put, List.setIfInBounds_toArray, List.set_cons_zero, List.set_cons_succ]
          refine anyL_one (i := 8) (atS (atS (atS (atS (atS (atS (atS (atS at0)))))))) (by kernel_rfl) rfl (fun K hK => ?_)
          go_simp
          refine hK _ _ (.inr HSA1) ?_
          try simp only [Act.put, List.setIfInBounds_toArray, List.set_cons_zero, List.set_cons_succ]
          refine anyL_one (i := 9) (atS (atS (atS (atS (atS (atS (atS (atS (atS at0))))))))) (by kernel_rfl) rfl (fun K hK => ?_)
          refine wp_append_run (.tmp 111) (.tmp 115) 39 (by rfl) (by rfl) (by rfl) rA2 (hK _ _ (.inr HSA2) ?_)
          simp only [Act.put, List.setIfInBounds_toArray, List.set_cons_zero, List.set_cons_succ]
          refine anyL_one (i := 10) (atS (atS (atS (atS (atS (atS (atS (atS (atS (atS at0)))))))))) (by kernel_rfl) rfl (fun K hK => ?_)
          go_simp
          refine hK _ _ (.inr HSA2) ?_
          try simp only [Act.put, List.setIfInBounds_toArray, List.set_cons_zero, List.set_cons_succ]
          refine anyL_one (i := 11) (atS (atS (atS (atS (atS (atS (atS (atS (atS (atS (atS at0))))))))))) (by kernel_rfl) rfl (fun K hK => ?_)
          go_simp
          refine hK _ _ (.inr HSA2) ?_
          try simp only [Act.put, List.setIfInBounds_toArray, List.set_cons_zero, List.set_cons_succ]
          refine anyL_one (i := 12) (atS (atS (atS (atS (atS (atS (atS (atS (atS (atS (atS (atS at0)))))))))))) (by kernel_rfl) rfl (fun K hK => ?_)
          go_simp
          refine hK _ _ (.inl rfl) (anyL_done (by kernel_rfl) (NoPanic.normal ?_))
          try simp only [Act.put, List.setIfInBounds_toArray, List.set_cons_zero, List.set_cons_succ]
          go_wp2
          go_meet
          case rel => (show TellW _ _ _ _ _ _ _ _ _ _ _ _ _ _ _; have h := TPA.out; rw [HFE.out, ← HL3.out] at h; exact h)
        · skip
          go_simp
          refine hK _ _ (.inr HSB0) ?_
          try simp only [Act.put, List.setIfInBounds_toArray, List.set_cons_zero, List.set_cons_succ]
          refine anyL_one (i := 4) (atS (atS (atS (atS at0)))) (by kernel_rfl) rfl (fun K hK => ?_)
          refine wp_append_run (.const (.slice none 0 0)) (.tmp 110) 39 (by rfl) (by rfl) (by rfl) rB (hK _ _ (.inr HSB) ?_)
          simp only [Act.put, List.setIfInBounds_toArray, List.set_cons_zero, List.set_cons_succ]
          refine anyL_one (i := 9) (atS (atS (atS (atS (atS (atS (atS (atS (atS at0))))))))) (by kernel_rfl) rfl (fun K hK => ?_)
          refine wp_append_run (.tmp 111) (.tmp 115) 39 (by rfl) (by rfl) (by rfl) rB2 (hK _ _ (.inr HSB2) ?_)
          simp only [Act.put, List.setIfInBounds_toArray, List.set_cons_zero, List.set_cons_succ]
          refine anyL_one (i := 10) (atS (atS (atS (atS (atS (atS (atS (atS (atS (atS at0)))))))))) (by kernel_rfl) rfl (fun K hK => ?_)
          go_simp
          refine hK _ _ (.inr HSB2) ?_
          try simp only [Act.put, List.setIfInBounds_toArray, List.set_cons_zero, List.set_cons_succ]
          refine anyL_one (i := 11) (atS (atS (atS (atS (atS (atS (atS (atS (atS (atS (atS at0))))))))))) (by kernel_rfl) rfl (fun K hK => ?_)
          go_simp
          refine hK _ _ (.inr HSB2) ?_
          try simp only [Act.put, List.setIfInBounds_toArray, List.set_cons_zero, List.set_cons_succ]
          refine anyL_one (i := 12) (atS (atS (atS (atS (atS (atS (atS (atS (atS (atS (atS (atS at0)))))))))))) (by kernel_rfl) rfl (fun K hK => ?_)
          go_simp
          refine hK _ _ (.inl rfl) (anyL_done (by kernel_rfl) (NoPanic.normal ?_))
          try simp only [Act.put, List.setIfInBounds_toArray, List.set_cons_zero, List.set_cons_succ]
          go_wp2
          go_meet
          case rel => (show TellW _ _ _ _ _ _ _ _ _ _ _ _ _ _ _; have h := TPB.out; rw [HFE.out, ← HL3.out] at h; exact h)
      case rest =>
        have HTW4 : Hid (TellW w wc B g n cap1 T P1 C1 z l3 (.slice (some ⟨ga, 0, none⟩) ar.length cv) ar #[.bool xA, .bool true, .bool x3, .bool x4, .bool xP] #[.int .i64 (n : Int), .int .i64 (N1 : Int), .int .i64 F1]) := hcut
        clear hcut HS0
        have T0 := HTW4.out.t.cell 0 (v := .int .i64 z) rfl
        have T1 := HTW4.out.t.cell 1 (v := .slice (some ⟨g, 0, none⟩) n cap1) rfl
        go_wp2_with (first
          | (go_at_call 11; (with_reducible refine (HBX.out _ _ _ HTW4.out.mach).mono ?_); rintro e w8 ⟨rfl, hb8⟩; have TW8 : Hid (TellW w w8 B g n cap1 T P1 C1 z l3 (.slice (some ⟨ga, 0, none⟩) ar.length cv) ar #[.bool xA, .bool true, .bool x3, .bool x4, .bool xP] #[.int .i64 (n : Int), .int .i64 (N1 : Int), .int .i64 F1]) := HTW4.out.below hb8; have u0 := TW8.out.p.cell 0 (v := .bool xA) rfl; have u4 := TW8.out.p.cell 4 (v := .bool xP) rfl; have P8 := TW8.out.p.lt; clear hb8))
        go_ret
        exact ⟨by simp, (TW8.out.bw).alloc TW8.out.bw.size _⟩

set_option maxRecDepth 100000 in
theorem lifted (os : Os) (started : os.Started) (H : Type) (enc : TypeId × Value → H) :
    ReturnsInHanded {} Try.checked os 3 .any (Rows.coreTellsSpec.pre6 enc Try.prog Try.f3 Rows.coreTellsRow.domain false) (Rows.coreTellsSpec.post enc Try.prog Try.f3 false true false false) := by
  refine returnsInHanded_of_change_sized (C := Try.checked) own started (by kernel_rfl) Try.func3
    (ChangeSpec.witness6 (enc := enc) (C := Try.checked) false ⟨#[], #[.agg #[.int .i64 0, .slice none 0 0], .int .i64 0], []⟩ 8 (by kernel_rfl) (by kernel_rfl) (by kernel_rfl) (by kernel_rfl)) ?_
  intro W base args ds gs before hval0 hW hcnd hsz0 _
  have hsz : (DataW.weightsEach Try.prog (Try.f3.params.toList ++ Rows.coreTellsSpec.plain.varTypes Try.prog) (ds ++ gs)).all (· ≤ reachBytes) = true := hsz0
  have hval : ∀ (j : Nat) t v, Try.f3.params[j]? = some t → args[j]? = some v → Value.okWide Try.prog W .any base t v := hval0
  clear hval0 hsz0
  have hW' := hW
  obtain ⟨p, q, hA0, hV, rfl, hfz, hnd⟩ := hW
  have hA : DataW.TrodAll enc Try.prog W 0 (fun _ => true) true Try.f3.params.toList args.toList ds p := hA0
  rw [Try.params3] at hA hval hsz
  obtain ⟨v0, vs0, d0, ds0, p0, q0, hargs, rfl, rfl, h0, r0⟩ := trodAll_cons hA
  obtain ⟨v1, vs1, d1, ds1, p1, q1, rfl, rfl, rfl, h1, r1⟩ := trodAll_cons r0
  obtain ⟨rfl, rfl, rfl⟩ := trodAll_nil r1
  obtain rfl : args = #[v0, v1] := by cases args; simp_all
  obtain ⟨rfl, rfl⟩ := trodVars_none hV
  have k0 := h0
  have lt0 : ∀ x ∈ p0, x.block < W.heap.size := by obtain ⟨m, hm⟩ := k0; exact DataW.trod_lt m _ _ _ hm
  obtain ⟨z0, w0⟩ : ∃ m : Rw, RawV W v0 m ∧ okR m ∧ wfR m := by
    obtain ⟨c0, c1, y0, y1, n, rfl, hd, hp, t0, t1⟩ := Go.Joins.open_agg2 Try.underlying24 (by kernel_rfl) (by kernel_rfl) (hval 0 24 v0 rfl rfl) h0
    subst hd
    exact open_raw t0 t1 ((Fits.arg hsz (j := 0) rfl rfl).field Try.underlying24 (f := 1) rfl rfl)
  obtain ⟨a1, rfl, rfl, rfl, w1⟩ := open_int Try.underlying3 (hval 1 3 v1 rfl rfl) h1
  refine (walk v0 z0 a1 W w0 w1).mono fun e W' ⟨he, bel⟩ => ?_
  subst he
  exact ⟨_, rfl, _, _, _, [], _, [], hW', trodAll_mk1 (shut_bool Try.underlying4 _), (trodAll_cons_mk (Below.trod laidOut (by kernel_rfl) (of_decide_eq_true (by kernel_rfl)) k0 bel lt0) (trodAll_cons_mk (shut_int Try.underlying3 w1) trodAll_mk0)), rfl, bel.frame _, fun h => by cases h⟩
end Go.Proofs.Ytbiecfnhjfdkcaa.coreTells
namespace Go.Proofs.Ytbiecfnhjfdkcaa
theorem coreTells_holds : Rows.CoreTellsSaid :=
  OpenClaim.holds_of_wide 3 Try.f3 rfl rfl rfl rfl rfl rfl rfl ⟨rfl, rfl, rfl, rfl, rfl⟩ rfl rfl rfl rfl rfl (by kernel_rfl) Try.func3 (by kernel_rfl)
    (of_decide_eq_true (by kernel_rfl)) (by unfold Func.isWrapper; first | (rw [if_pos (by decide +kernel)]; kernel_rfl) | (rw [if_neg (by decide +kernel)]; exact ⟨rfl, rfl⟩))
    (fun os started H enc _ => coreTells.lifted os started H enc)
#print axioms coreTells_holds
end Go.Proofs.Ytbiecfnhjfdkcaa
