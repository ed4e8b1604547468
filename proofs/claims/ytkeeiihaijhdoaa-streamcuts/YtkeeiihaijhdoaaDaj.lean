/- What labels that are fed leave: bounds, and one piece behind another. -/
import Derived.Test.YtkeeiihaijhdoaaDai
import Derived.Test.YtkeeiihaijhdoaaDac
import Derived.Test.YtkeeiihaijhdoaaDab
import Derived.Test.YtkeeiihaijhdoaaDah
namespace Go.Proofs.Ytkeeiihaijhdoaa.Sm
open Go.ChangeShapes Go.WideShapes Go.ChangeAt Go.RowKit
open Go.Proofs.Ytkeeiihaijhdoaa.Pl Go.Proofs.Ytkeeiihaijhdoaa.Wt
set_option linter.unusedVariables false
theorem fedT_bnd {m : Mc} (hf : faultM m = 0) (h60 : m.2.length ≤ 60) : ∀ {l : List Int} {K : Tbl} {res : Option Tbl} {B : Nat}, FedT m K l res → DomT m.2.length K → BndT 1000000000 B K → ∀ R, res = some R → DomT m.2.length R ∧ BndT 1000000000 (B + 61 * l.length) R
  | [], _, _, B, .nil _, hd, hb, R, h => by
    cases h
    exact ⟨hd, by simpa using hb⟩
  | x :: l, _, _, B, .over a1 a2 a3, hd, hb, R, h => by cases h
  | x :: l, K, _, B, .on (O := O) (K' := K') a1 a2 a3 a4, hd, hb, R, h => by
    have hDN := minS_dom hf a1
    have hBN := minS_bnd hf hb a1
    have e := a2.one (itT_clo hDN (arcs_ok hf))
    have hDK : DomT m.2.length K' := fun q y hq => (a2.1 q y hq).dom hDN (arcs_ok hf)
    have hBK : BndT 1000000000 (B + 61) K' := fun q y hq => by
      have h2 := hq
      rw [e] at h2
      have h3 := itT_bnd hf hBN _ q y h2
      have h4 : ¬ 1000000000 < y.1 := fun h => a3 ⟨q, y, hq, h⟩
      omega
    have := fedT_bnd hf h60 a4 hDK hBK R h
    refine ⟨this.1, fun q y hq => ?_⟩
    have h5 := this.2 q y hq
    simp only [List.length_cons]
    omega
theorem fedT_app {m : Mc} : ∀ {l : List Int} {K R : Tbl} {s : Option Tbl} {x : List Int}, FedT m K l (some R) → FedT m R x s → FedT m K (l ++ x) s
 | [], _, _, _, _, .nil _, h => h
 | y :: l, _, _, _, _, .on a1 a2 a3 a4, h => .on a1 a2 a3 (fedT_app a4 h)
theorem ordL_okU {n : Nat} {K : Tbl} {B : Nat} {z : Int} (hn : n ≤ 60) (hB : B ≤ 1000000) (hb : BndT 1000000000 B K) : okU (z, ordL n K) := by
 refine ⟨by have := ordL_len n K; simp only; omega, fun j hj => ?_⟩
 have h2 := hb _ _ (ordL_mem (el_mem hj))
 simp only at h2 ⊢
 omega
theorem fed_ok {m : Mc} {r : Ru} {x : List Int} {s : Ru} {ec : Int} (h : FedAns m r x s ec) : okU s := by
 rcases h with ⟨_, rfl, _⟩ | ⟨_, _, rfl, _⟩ | ⟨_, _, _, rfl, _⟩ | ⟨hc, ho, _, res, hres, rfl, _⟩
 ·exact ⟨by simp, by simp⟩
 ·exact ⟨by simp, by simp⟩
 ·exact ⟨by simp, by simp⟩
 ·rcases res with _ | K
  ·exact ⟨by simp, by simp⟩
  ·obtain ⟨hf, hrun⟩ := chk_ok hc
   have h60 : m.2.length ≤ 60 := by obtain ⟨z, l⟩ := m; exact (right_size hf).1
   have hT := tblT_facts hrun
   have hfd := runB_fed hrun
   have := fedT_bnd hf h60 hres hT.1 hT.2 K rfl
   exact ordL_okU h60 (B := 800 + 61 * x.length) (by omega) this.2
theorem nzT_of {nl : List Mk} (h : NzL nl) : NzT (tblT nl) := fun q k hk x hx => by
 obtain ⟨j, hj, he⟩ := List.getElem_of_mem (tblT_mem hk)
 have := h j hj
 rw [el_get hj, he] at this
 exact this x hx
theorem nzL_run {n : Int} {r : Ru} (h : runB n r = true) : NzL r.2 := fun j hj x hx => by
 simp only [runB, Bool.and_eq_true] at h
 have h2 := List.all_eq_true.1 h.2 _ (el_mem hj)
 simp only [mkB, Bool.and_eq_true] at h2
 have h3 := List.all_eq_true.1 h2.2 x hx
 simp only [inB, Bool.and_eq_true, decide_eq_true_eq] at h3
 omega
theorem fedT_nz {m : Mc} : ∀ {l : List Int} {K : Tbl} {res : Option Tbl}, FedT m K l res → NzT K → ∀ R, res = some R → NzT R
  | [], _, _, .nil _, hn, R, h => by cases h; exact hn
  | x :: l, _, _, .over a1 a2 a3, hn, R, h => by cases h
  | x :: l, K, _, .on a1 a2 a3 a4, hn, R, h => by
    refine fedT_nz a4 (a2.nz fun p y hp => ?_) R h
    obtain ⟨q, z, a, h1, _, _, _, rfl⟩ := a1.1 p y hp
    exact goA_nz (hn q z h1)
theorem fed_nz {m : Mc} {r : Ru} {x : List Int} {s : Ru} {ec : Int} (h : FedAns m r x s ec) : NzL s.2 := by
 rcases h with ⟨_, rfl, _⟩ | ⟨_, _, rfl, _⟩ | ⟨_, _, _, rfl, _⟩ | ⟨hc, ho, _, res, hres, rfl, _⟩
 ·intro j hj; simp at hj
 ·intro j hj; simp at hj
 ·intro j hj; simp at hj
 ·rcases res with _ | K
  ·intro j hj; simp at hj
  ·exact (fedT_nz hres (nzT_of (nzL_run (chk_ok hc).2)) K rfl).list
theorem run_out {w w' : World} {v : Value} {r : Ru} (h : RunV w v r) (hz : NzL r.2) {P : Nat} {t : TypeId} (hP : Blk w P #[.int .i64 0, .slice none 0 0] t) (hk : ∀ b, b < w.heap.size → b ≠ P → w'.heap[b]? = w.heap[b]?) (hs : w.heap.size ≤ w'.heap.size) : RunV w' v r := by
 obtain ⟨vs, h1, h2⟩ := h
 exact ⟨vs, h1, ((MarksX.old h2 (Below.refl _ _) (Nat.le_refl _)).zero hz hP hk hs (by have := hP.lt; omega)).marks⟩
structure CutM (m : Mc) : Prop where
 ok : faultM m = 0
 few : m.2.length ≤ 6
 beg : 0 ≤ m.1
 low : ∀ q a, a ∈ arcS m q → a.2.2.1 ≤ 9
theorem itT_low {m : Mc} {n : Nat} {T : Tbl} {A : Int} {B : Nat} (hf : faultM m = 0) (hw : ∀ q a, a ∈ arcS m q → a.2.2.1 ≤ 9) (hb : BndT A B T) : ∀ k : Nat, BndT (A + 9 * k) (B + k) (itT m n T k)
  | 0 => fun p y hp => by have := hb p y hp; simp; omega
  | k + 1 => fun p y hp => by
    have ih := itT_low hf hw hb (n := n) k
    rcases rndF_or _ hp with h | h | ⟨q, x, a, h1, h2, h3, rfl, rfl⟩
    · cases h
    · have := ih p y h
      omega
    · have h4 := ih q x h1
      have h5 := arcs_rng hf h2
      have h6 := hw q a h2
      have h7 := goA_len x a
      have h8 : (goA x a).1 = x.1 + a.2.2.1 := rfl
      omega
def LabT (T : Tbl) : Prop := ∀ q k, T q = some k → ∀ x ∈ k.2, 1 ≤ x ∧ x ≤ 1000
theorem goA_lab {m : Mc} {q : Int} {k : Ky} {a : Ar} (hf : faultM m = 0) (ha : a ∈ arcS m q) (h : ∀ x ∈ k.2, 1 ≤ x ∧ x ≤ 1000) : ∀ x ∈ (goA k a).2, 1 ≤ x ∧ x ≤ 1000 := by
 intro x hx
 have hr := arcs_rng hf ha
 unfold goA at hx
 simp only at hx
 split at hx
 ·exact h x hx
 ·rw [List.mem_append, List.mem_singleton] at hx
  rcases hx with hx | rfl
  ·exact h x hx
  ·omega
theorem clo_lab {m : Mc} {T K : Tbl} (hf : faultM m = 0) (h : Clo m T K) (hT : LabT T) : LabT K := fun q k hk => by
 have := h.1 q k hk
 clear hk
 induction this with
 | base h => exact hT _ _ h
 | step h ha h0 ih => exact goA_lab hf ha ih
structure CutK (m : Mc) (K : Tbl) (A : Int) (B : Nat) : Prop where
 dom : DomT m.2.length K
 bnd : BndT A B K
 lab : LabT K
theorem cut_clo {m : Mc} (h : CutM m) {T K : Tbl} {A : Int} {B : Nat} (hT : CutK m T A B) (hc : Clo m T K) : CutK m K (A + 54) (B + 6) := by
 have hd := hT.dom
 refine ⟨fun q y hq => (hc.1 q y hq).dom hd (arcs_ok h.ok), fun q y hq => ?_, clo_lab h.ok hc hT.lab⟩
 have e := hc.one (itT_clo hd (arcs_ok h.ok))
 rw [e] at hq
 have h1 := itT_low h.ok h.low hT.bnd _ q y hq
 have h2 := h.few
 omega
theorem cut_step {m : Mc} (h : CutM m) {K O : Tbl} {x : Int} {A : Int} {B : Nat} (hT : CutK m K A B) (hm : MinT (StpL m K x) O) : CutK m O (A + 9) (B + 1) := by
 refine ⟨minS_dom h.ok hm, fun p y hp => ?_, fun p y hp => ?_⟩
 ·obtain ⟨q, z, a, h1, h2, h3, rfl, rfl⟩ := hm.1 p y hp
  have g2 := arcs_rng h.ok h2
  have g3 := goA_len z a
  have g4 : (goA z a).1 = z.1 + a.2.2.1 := rfl
  have g5 := hT.bnd q z h1
  have g6 := h.low q a h2
  omega
 ·obtain ⟨q, z, a, h1, h2, h3, rfl, rfl⟩ := hm.1 p y hp
  exact goA_lab h.ok h2 (hT.lab q z h1)
theorem cut_fed {m : Mc} (h : CutM m) : ∀ {l : List Int} {K : Tbl} {res : Option Tbl} {A : Int} {B : Nat}, FedT m K l res → CutK m K A B → A + 63 * l.length ≤ 1000000000 → ∃ R, res = some R ∧ CutK m R (A + 63 * l.length) (B + 7 * l.length)
  | [], K, _, A, B, .nil _, hK, hA => ⟨K, rfl, by simpa using hK⟩
  | x :: l, _, _, A, B, .over a1 a2 a3, hK, hA => by
    obtain ⟨q, k, h1, h2⟩ := a3
    have h3 := (cut_clo h (cut_step h hK a1) a2).bnd q k h1
    simp only [List.length_cons] at hA
    omega
  | x :: l, K, _, A, B, .on a1 a2 a3 a4, hK, hA => by
    have h3 := cut_clo h (cut_step h hK a1) a2
    simp only [List.length_cons] at hA
    obtain ⟨R, e, hR⟩ := cut_fed h a4 h3 (by omega)
    refine ⟨R, e, hR.dom, fun q y hq => ?_, hR.lab⟩
    have := hR.bnd q y hq
    simp only [List.length_cons]
    omega
theorem cut_run {m : Mc} {K : Tbl} {A : Int} {B : Nat} {z : Int} (hz : 0 ≤ z ∧ z ≤ 12) (hK : CutK m K A B) (hA : A ≤ 1000000000) (hB : B ≤ 800) : runB m.2.length (z, ordL m.2.length K) = true := by
 simp only [runB, Bool.and_eq_true]
 refine ⟨⟨by simp [inB]; omega, risB_ordL _ _⟩, List.all_eq_true.2 fun k hk => ?_⟩
 have h1 := ordL_mem hk
 have h2 := hK.bnd _ _ h1
 have h3 := hK.lab _ _ h1
 simp only [mkB, Bool.and_eq_true, decide_eq_true_eq]
 refine ⟨⟨by simp [inB]; omega, by omega⟩, ?_⟩
 unfold labB
 exact List.all_eq_true.2 fun x hx => by have := h3 x hx; simp [inB]; omega
theorem cut_beg {m : Mc} (h : CutM m) {a : Ru} {e : Int} (ha : BegAns m a e) : ∃ K, e = 0 ∧ a = (0, ordL m.2.length K) ∧ CutK m K 54 6 ∧ Clo m (startT m) K ∧ 0 < a.2.length := by
 have hz := start_rng h.ok
 have h0 := h.beg
 have hS : CutK m (startT m) 0 0 := ⟨startT_dom hz.2, startT_bnd m, fun q k hk x hx => by
  have := startT_bnd m q k hk
  have h2 : k.2 = [] := List.eq_nil_of_length_eq_zero (by omega)
  rw [h2] at hx; cases hx⟩
 rcases ha with ⟨h1, _⟩ | ⟨_, K, hK, h1⟩
 ·exact absurd h.ok h1
 ·have hC : CutK m K 54 6 := by have := cut_clo h hS hK; simpa using this
  rcases h1 with ⟨⟨q, k, g1, g2⟩, _⟩ | ⟨_, rfl, rfl⟩
  ·have := hC.bnd q k g1
   omega
  ·refine ⟨K, rfl, rfl, hC, hK, ?_⟩
   obtain ⟨b, hb, _⟩ := hK.2 m.1 (0, []) (.base (by unfold startT; rw [if_pos ⟨h0, rfl⟩]))
   have := (mem_ordL hC.dom).2 hb
   exact List.length_pos_of_mem this
theorem cut_begok {m : Mc} (h : CutM m) {a : Ru} {e : Int} (ha : BegAns m a e) : okU a := by
 obtain ⟨K, rfl, rfl, hK, _, h0⟩ := cut_beg h ha
 have := h.few
 exact ordL_okU (by omega) (B := 6) (by omega) fun q y hq => by have := hK.bnd q y hq; omega
theorem cut_ans {m : Mc} (h : CutM m) {K : Tbl} {z : Int} {x : List Int} {A : Int} {B : Nat} {s : Ru} {f : Int} (hK : CutK m K A B) (hz : 0 ≤ z) (hx : z + x.length ≤ 12) (hl : labB x = true) (hA : A + 63 * x.length ≤ 1000000000) (hB : B ≤ 800) (hs : FedAns m (z, ordL m.2.length K) x s f) :
  ∃ R, f = 0 ∧ s = (z + x.length, ordL m.2.length R) ∧ FedT m K x (some R) ∧ CutK m R (A + 63 * x.length) (B + 7 * x.length) := by
 have hc : chkA m (z, ordL m.2.length K) = 0 := by
  unfold chkA
  rw [if_neg (by simp [h.ok]), if_pos (cut_run ⟨hz, by omega⟩ hK (by omega) hB)]
 rcases hs with ⟨h1, _⟩ | ⟨_, h1, _⟩ | ⟨_, _, h1, _⟩ | ⟨_, _, _, res, hres, rfl, rfl⟩
 ·exact absurd hc h1
 ·exact absurd h1 (by simp only; omega)
 ·rw [hl] at h1; cases h1
 ·simp only [tblT_ordL hK.dom] at hres
  obtain ⟨R, rfl, hR⟩ := cut_fed h hres hK hA
  exact ⟨R, rfl, rfl, hres, hR⟩
theorem labB_fst {x : List Int} (h : labB x = true) (k : Nat) : labB (x.take k) = true := by
 unfold labB at *
 exact List.all_eq_true.2 fun y hy => List.all_eq_true.1 h y (List.mem_of_mem_take hy)
theorem labB_snd {x : List Int} (h : labB x = true) (k : Nat) : labB (x.drop k) = true := by
 unfold labB at *
 exact List.all_eq_true.2 fun y hy => List.all_eq_true.1 h y (List.mem_of_mem_drop hy)
theorem cuts {m : Mc} (h : CutM m) {a b c s : Ru} {x : List Int} {k : Nat} {e f g i : Int} (hl : labB x = true) (hx : x.length ≤ 12) (hk : k ≤ x.length) (ha : BegAns m a e) (hs : FedAns m a x s f) (hb : FedAns m a (x.take k) b g) (hc : FedAns m b (x.drop k) c i) :
  e = 0 ∧ f = 0 ∧ g = 0 ∧ i = 0 ∧ c = s ∧ s.1 = x.length ∧ 0 < a.2.length := by
 obtain ⟨K, rfl, rfl, hK, _, h0⟩ := cut_beg h ha
 have ht : (x.take k).length = k := by rw [List.length_take]; omega
 have hd : (x.drop k).length = x.length - k := List.length_drop
 obtain ⟨R, rfl, rfl, hR, _⟩ := cut_ans h hK (by omega) (by omega) hl (by omega) (by omega) hs
 obtain ⟨R1, rfl, rfl, hR1, hC1⟩ := cut_ans h hK (by omega) (by omega) (labB_fst hl k) (by omega) (by omega) hb
 obtain ⟨R2, rfl, rfl, hR2, _⟩ := cut_ans h hC1 (by omega) (by omega) (labB_snd hl k) (by omega) (by omega) hc
 have hj := fedT_app hR1 hR2
 rw [List.take_append_drop] at hj
 have := hj.one hR
 simp only [Option.some.injEq] at this
 subst this
 refine ⟨rfl, rfl, rfl, rfl, ?_, by simp, h0⟩
 simp only [Prod.mk.injEq, and_true]
 omega
end Go.Proofs.Ytkeeiihaijhdoaa.Sm
namespace Go.Proofs.Ytkeeiihaijhdoaa.Sm
open Go.ChangeShapes Go.WideShapes Go.ChangeAt Go.RowKit
open Go.Proofs.Ytkeeiihaijhdoaa.Pl Go.Proofs.Ytkeeiihaijhdoaa.Wt
set_option linter.unusedVariables false
set_option linter.unusedSimpArgs false
theorem sameNumsK_any (v1 v2 : Value) (l : List Int) (w : World) (h1 : Nums w v1 l) (h2 : Nums w v2 l) (hl : l.length ≤ 17592186044416) :
  Calls Try.prog 44 #[v1, v2] w fun e w' => e = .returned (.bool true) ∧ Below w.heap.size w w' := by
 obtain ⟨a, cap, rfl, hc⟩ := h1.get
 obtain ⟨a2, cap2, rfl, hc2⟩ := h2.get
 have HC : Hid (∀ j, j < l.length → ∃ b off, a = some ⟨b, off, none⟩ ∧ b < w.heap.size ∧ w.cell? ⟨b, off + j, none⟩ = some (.int .i64 (el l j))) := hc
 have HC2 : Hid (∀ j, j < l.length → ∃ b off, a2 = some ⟨b, off, none⟩ ∧ b < w.heap.size ∧ w.cell? ⟨b, off + j, none⟩ = some (.int .i64 (el l j))) := hc2
 clear h1 h2 hc hc2
 generalize l.length = n at *
 go_enter Try.func44, Try.ntmps44
 go_wp2
 go_loopw [5] (fun i wr => ∃ k q : Nat, k ≤ n ∧ i = .int .i64 k ∧ wr = w.drewN q) (fun i _ => n - (intOf i).toNat)
 case atStart => exact ⟨0, 0, Nat.zero_le _, rfl, (World.drewN_zero w).symm⟩
 case round =>
  obtain ⟨k, q, hk, rfl, rfl⟩ := hrel
  by_cases hlt : k < n
  ·obtain ⟨b, off, rfl, _, g0⟩ := HC.out k hlt
   obtain ⟨b2, off2, rfl, _, r0⟩ := HC2.out k hlt
   have hk0 : (0 : Int) ≤ (k : Int) := by omega
   have hk1 : (k : Int) < (n : Int) := by omega
   generalize el l k = x at *
   go_wp2
   go_quiet (fail)
   go_wp2
   go_roundw
   case rel => exact ⟨k + 1, q + nq, by omega, by go_num, by first | rfl | rw [World.drewN_drewN]⟩
   case measure => simp [intOf]; omega
  ·have hnl : ¬ (k : Int) < (n : Int) := by omega
   go_wp2
   go_ret
   exact ⟨rfl, below_drewN (Below.refl _ _) q⟩
set_option maxRecDepth 100000 in
set_option maxHeartbeats 1600000 in
theorem sameRunK_any (v1 v2 : Value) (r : Ru) (w : World) (h1 : RunV w v1 r) (h2 : RunV w v2 r) (hok : okU r) :
  Calls Try.prog 24 #[v1, v2] w fun e w' => e = .returned (.bool true) ∧ Below w.heap.size w w' := by
 obtain ⟨z, l⟩ := r
 obtain ⟨vs, rfl, hM⟩ := h1
 obtain ⟨vs2, rfl, hM2⟩ := h2
 obtain ⟨hL, hO⟩ := hok
 simp only at hM hM2 hL hO ⊢
 obtain ⟨a, cap, rfl, hc⟩ := hM.get
 obtain ⟨a2, cap2, rfl, hc2⟩ := hM2.get
 have HC : Hid (∀ j, j < l.length → ∃ b off vo, a = some ⟨b, off, none⟩ ∧ b < w.heap.size ∧ w.cell? ⟨b, off + j * 3, none⟩ = some (.int .i64 (el l j).1) ∧ w.cell? ⟨b, off + j * 3 + 1, none⟩ = some (.int .i64 (el l j).2.1) ∧ w.cell? ⟨b, off + j * 3 + 2, none⟩ = some vo ∧ Nums w vo (el l j).2.2) := hc
 have HC2 : Hid (∀ j, j < l.length → ∃ b off vo, a2 = some ⟨b, off, none⟩ ∧ b < w.heap.size ∧ w.cell? ⟨b, off + j * 3, none⟩ = some (.int .i64 (el l j).1) ∧ w.cell? ⟨b, off + j * 3 + 1, none⟩ = some (.int .i64 (el l j).2.1) ∧ w.cell? ⟨b, off + j * 3 + 2, none⟩ = some vo ∧ Nums w vo (el l j).2.2) := hc2
 have HO := hidP hO
 clear hM hM2 hc hc2 hO
 generalize hn : l.length = n at *
 have hnot : ∀ (x : Bool) (w : World), (Op.unary .not (.bool x)).run Try.prog w = .ok (.bool (!x)) w := fun _ _ => rfl
 have HU : Hid (Below w.heap.size w ((w.alloc (.cells #[.int .i64 z, .slice a n cap] 28)).alloc (.cells #[.int .i64 z, .slice a2 n cap2] 28))) := by show Below _ _ _; go_grown
 go_enter Try.func24, Try.ntmps24
 go_wp2
 go_loopw [5] (fun i wr => ∃ k : Nat, k ≤ n ∧ i = .int .i64 k ∧ wr.cell? ⟨w.heap.size, 1, none⟩ = some (.slice a n cap) ∧ wr.cell? ⟨w.heap.size + 1, 1, none⟩ = some (.slice a2 n cap2) ∧ w.heap.size + 2 ≤ wr.heap.size ∧ Hid (Below w.heap.size w wr)) (fun i _ => n - (intOf i).toNat)
 case atStart => exact ⟨0, Nat.zero_le _, rfl, by go_cell, by go_cell, by simp, by show Below _ _ _; exact HU.out⟩
 case round =>
  obtain ⟨k, hk, rfl, c1, c2, hs, hb⟩ := hrel
  by_cases hlt : k < n
  ·obtain ⟨b, off, vo, rfl, hbl, g0, g1, g2, hN⟩ := HC.out k hlt
   obtain ⟨b2, off2, vo2, rfl, hbl2, r0, r1, r2, hN2⟩ := HC2.out k hlt
   have g0 := (hb.out.cell (p := ⟨b, off + k * 3, none⟩) hbl).trans g0
   have g1 := (hb.out.cell (p := ⟨b, off + k * 3 + 1, none⟩) hbl).trans g1
   have g2 := (hb.out.cell (p := ⟨b, off + k * 3 + 2, none⟩) hbl).trans g2
   have r0 := (hb.out.cell (p := ⟨b2, off2 + k * 3, none⟩) hbl2).trans r0
   have r1 := (hb.out.cell (p := ⟨b2, off2 + k * 3 + 1, none⟩) hbl2).trans r1
   have r2 := (hb.out.cell (p := ⟨b2, off2 + k * 3 + 2, none⟩) hbl2).trans r2
   have HOk := hidP (HO.out k hlt)
   obtain ⟨ao, co, rfl⟩ := Row.sl hN
   obtain ⟨ao2, co2, rfl⟩ := Row.sl hN2
   have z0 : w.heap.size < wr.heap.size := by omega
   have z1 : w.heap.size + 1 < wr.heap.size := by omega
   have z2 : b < wr.heap.size := by omega
   have z3 : b2 < wr.heap.size := by omega
   have hk0 : (0 : Int) ≤ (k : Int) := by omega
   have hk1 : (k : Int) < (n : Int) := by omega
   have HN : Hid (Nums wr (.slice ao (el l k).2.2.length co) (el l k).2.2) := hN.later hb.out (Nat.le_refl _)
   have HN2 : Hid (Nums wr (.slice ao2 (el l k).2.2.length co2) (el l k).2.2) := hN2.later hb.out (Nat.le_refl _)
   clear hN hN2 hbl hbl2
   generalize el l k = p at *
   obtain ⟨p0, p1, p2⟩ := p
   simp only at g0 g1 g2 r0 r1 r2 HN HN2 HOk
   have HU2 : Hid (Below wr.heap.size wr ((wr.alloc (.cells #[.int .i64 p0, .int .i64 p1, .slice ao p2.length co] 67)).alloc (.cells #[.int .i64 p0, .int .i64 p1, .slice ao2 p2.length co2] 67))) := by show Below _ _ _; go_grown
   go_wp2_with (first
    | (go_at_call 44; (with_reducible refine (sameNumsK_any _ _ p2 _ (HN.out.later HU2.out (Nat.le_refl _)) (HN2.out.later HU2.out (Nat.le_refl _)) (by have h9 := HOk.out; omega)).mono ?_); rintro e w1 ⟨rfl, hb1⟩; have d1 := low (low c1 HU2.out) hb1; have d2 := low (low c2 HU2.out) hb1; have HB1 : Hid (Below wr.heap.size wr w1) := HU2.out.trans (hb1.mono HU2.out.size); clear hb1))
   go_roundw
   case rel => exact ⟨k + 1, by omega, by go_num, d1, d2, by have h9 := HB1.out.size; omega, hb.out.trans (HB1.out.mono hb.out.size)⟩
   case measure => simp [intOf]; omega
  ·have hnl : ¬ (k : Int) < (n : Int) := by omega
   have hkn : k = n := by omega
   go_wp2
   go_ret
   exact ⟨rfl, hb.out⟩
end Go.Proofs.Ytkeeiihaijhdoaa.Sm
namespace Go.Proofs.Ytkeeiihaijhdoaa.Sm
open Go.ChangeShapes Go.WideShapes Go.ChangeAt Go.RowKit Go.Maps
open Go.Proofs.Ytkeeiihaijhdoaa.Pl Go.Proofs.Ytkeeiihaijhdoaa.Wt
set_option linter.unusedVariables false
set_option linter.unusedSimpArgs false
theorem numsNil (w : World) : Nums w (.slice none 0 0) [] := Or.inl ⟨rfl, rfl⟩
def RunRes (r : Ru) (ec : Int) (w : World) (e : Ending) (w' : World) : Prop := ∃ v, e = .returned (.tuple #[v, .int .i64 ec]) ∧ RunV w' v r ∧ Below w.heap.size w w'
set_option maxRecDepth 100000 in
set_option maxHeartbeats 1600000 in
theorem begun_any (v : Value) (mc : Mc) (w : World) (h : Mach w v mc) (hok : okM mc) (hf : faultM mc = 0) :
  Calls Try.prog 28 #[v] w fun e w' => ∃ (mk : Nat) (K : Tbl) (kk : List Int), e = .returned (.map (some mk)) ∧ MpK w' mk K kk ∧ Clo mc (startT mc) K ∧ DomT mc.2.length K ∧ BndT 60000000000 60 K ∧ Below w.heap.size w w' := by
 have HMa := hidP h
 have HK := hidP hok
 have HF := hidP hf
 have hz := start_rng hf
 obtain ⟨z, l⟩ := mc
 obtain ⟨vs, rfl, hS⟩ := h
 obtain ⟨a, cap, rfl⟩ := hS.sl
 have h60 := (right_size hf).1
 clear hS hok hf
 simp only at hz
 have hmk := @run_makeMap Try.prog
 have HU : Hid (Below w.heap.size w ((w.alloc (.cells #[.int .i64 z, .slice a l.length cap] 24)).alloc (.map #[] 0))) := by show Below _ _ _; go_grown
 have HM0 : Hid (MpK ((w.alloc (.cells #[.int .i64 z, .slice a l.length cap] 24)).alloc (.map #[] 0)) (w.heap.size + 1) (fun _ => none) []) := by
  have h := MpK.made (w.alloc (.cells #[.int .i64 z, .slice a l.length cap] 24))
  simp only [World.size_alloc] at h
  exact h
 have HB0 : Hid (Blk ((w.alloc (.cells #[.int .i64 z, .slice a l.length cap] 24)).alloc (.map #[] 0)) w.heap.size #[.int .i64 z, .slice a l.length cap] 24) := (Blk.made w _ _).alloc _
 have HDm : Hid (DomT l.length (startT (z, l))) := startT_dom (m := (z, l)) hz.2
 have HBd : Hid (BndT 0 0 (startT (z, l))) := startT_bnd (z, l)
 by_cases h0 : 0 ≤ z
 ·have HPT : Hid (startT (z, l) = putT (fun _ => none) z (0, [])) := startT_put (m := (z, l)) h0
  have hwf : wfI z := wfI_of (by omega) (by omega)
  go_enter Try.func28, Try.ntmps28
  go_wp2_with (first
   | (go_at_call 51; (with_reducible refine (put_any (w.heap.size + 1) _ (z, 0, []) _ [] _ HM0.out (mkIs_of (numsNil _)) hwf (by simp) (by simp)).mono ?_); rintro e w1 ⟨rfl, hM1, hg1⟩; have HM1 : Hid (MpK w1 (w.heap.size + 1) (startT (z, l)) (addS [] z)) := (by show MpK _ _ _ _; rw [HPT.out]; exact hM1); have HG1 : Hid (w.grownBy w1 none) := gMap (gNew HU.out) hg1 (by omega); have HB1 := hidP (HB0.out.grown hg1 (by simp)); have c0 := HB1.out.cell 0 (v := .int .i64 z) rfl; have c1 := HB1.out.cell 1 (v := .slice a l.length cap) rfl; have HK1 := hidP (HM0.out.keeps hg1); clear hM1 hg1)
   | (go_at_call 52; (with_reducible refine (closed_any _ (z, l) (w.heap.size + 1) (startT (z, l)) _ 0 0 _ (Mach.keeps (HMa.out.later HU.out (Nat.le_refl _)) HK1.out) HK.out HF.out HM1.out HDm.out HBd.out (by omega) (by omega)).mono ?_); rintro e w2 ⟨mk, K, kk, rfl, hM2, hC2, hD2, hB2, hle2, hg2⟩; have HM2 := hidP hM2; have HC2 := hidP hC2; have HD2 := hidP hD2; have HBn2 : Hid (BndT 60000000000 60 K) := (by show BndT _ _ _; simpa using hB2); have HG2 : Hid (w.grownBy w2 none) := gMap HG1.out hg2 (by omega); clear hM2 hC2 hD2 hB2 hg2))
  go_ret
  exact ⟨mk, K, kk, rfl, HM2.out, HC2.out, HD2.out, HBn2.out, gBelow HG2.out (by simp) (Nat.le_refl _)⟩
 ·have HPT : Hid (startT (z, l) = fun _ => none) := startT_none (m := (z, l)) (by simp only; omega)
  go_enter Try.func28, Try.ntmps28
  go_wp2_with (first
   | (go_at_call 52; (with_reducible refine (closed_any _ (z, l) (w.heap.size + 1) (startT (z, l)) [] 0 0 _ (HMa.out.later HU.out (Nat.le_refl _)) HK.out HF.out (by rw [HPT.out]; exact HM0.out) HDm.out HBd.out (by omega) (by omega)).mono ?_); rintro e w2 ⟨mk, K, kk, rfl, hM2, hC2, hD2, hB2, hle2, hg2⟩; have HM2 := hidP hM2; have HC2 := hidP hC2; have HD2 := hidP hD2; have HBn2 : Hid (BndT 60000000000 60 K) := (by show BndT _ _ _; simpa using hB2); have HG2 : Hid (w.grownBy w2 none) := gMap (gNew HU.out) hg2 (by omega); clear hM2 hC2 hD2 hB2 hg2))
  go_ret
  exact ⟨mk, K, kk, rfl, HM2.out, HC2.out, HD2.out, HBn2.out, gBelow HG2.out (by simp) (Nat.le_refl _)⟩
set_option maxRecDepth 100000 in
set_option maxHeartbeats 1600000 in
theorem beginP_any (v : Value) (mc : Mc) (w : World) (h : Mach w v mc) (hok : okM mc) :
  Calls Try.prog 10 #[v] w fun e w' => ∃ r ec, BegAns mc r ec ∧ RunRes r ec w e w' := by
 have HMa := hidP h
 have HK := hidP hok
 obtain ⟨z, l⟩ := mc
 obtain ⟨vs, rfl, hS⟩ := h
 obtain ⟨a, cap, rfl⟩ := hS.sl
 clear hS hok
 have HU : Hid (Below w.heap.size w ((w.alloc (.cells #[.int .i64 z, .slice a l.length cap] 24)).alloc (.cells #[.int .i64 0, .slice none 0 0] 28))) := by show Below _ _ _; go_grown
 by_cases hf : faultM (z, l) = 0
 ·have HF := hidP hf
  have h60 := (right_size hf).1
  clear hf
  go_enter Try.func10, Try.ntmps10
  go_wp2_with (first
   | (go_at_call 27; (with_reducible refine (coreCheck_any _ (z, l) _ (HMa.out.later HU.out (Nat.le_refl _)) HK.out 0 HF.out).mono ?_); rintro e w1 ⟨rfl, hb⟩; obtain ⟨s1, b1, b2, hb1⟩ := boxedTwo hb (by simp); have HB1 := hidP hb1; have BM1 := hidP b1; have BR1 := hidP b2; have c0 := b1.cell 0 (v := .int .i64 z) rfl; have c1 := b1.cell 1 (v := .slice a l.length cap) rfl; clear hb hb1 b1 b2)
   | (go_at_call 28; (with_reducible refine (begun_any _ (z, l) _ (HMa.out.later HB1.out (Nat.le_refl _)) HK.out HF.out).mono ?_); rintro e w2 ⟨mk, K, kk, rfl, hM2, hC2, hD2, hB2, hb2⟩; have HM2 := hidP hM2; have HC2 := hidP hC2; have HBn2 : Hid (∀ q k, K q = some k → k.2.length ≤ 1000000) := (fun q k hk => by have := (hB2 q k hk).2.2; omega); have HB2 : Hid (Below w.heap.size w w2) := HB1.out.trans (hb2.mono HB1.out.size); have BM2 := hidP (BM1.out.below hb2 BM1.out.lt); have BR2 := hidP (BR1.out.below hb2 BR1.out.lt); clear hM2 hC2 hD2 hB2 hb2)
   | (go_at_call 29; (with_reducible refine (haveOver_any mk K kk _ HM2.out).mono ?_); rintro e w3 ⟨ov, rfl, hov, hb3⟩; have HOV : Hid (ov = true ↔ OverT K) := hov; have HB3 : Hid (Below w.heap.size w w3) := HB2.out.trans (hb3.mono HB2.out.size); have HM3 := hidP (HM2.out.below hb3); have BM3 := BM2.out.below hb3 BM2.out.lt; have BR3 := hidP (BR2.out.below hb3 BR2.out.lt); have d0 := BM3.cell 0 (v := .int .i64 z) rfl; have d1 := BM3.cell 1 (v := .slice a l.length cap) rfl; have y0 := BR3.out.cell 0 (v := .int .i64 0) rfl; have y1 := BR3.out.cell 1 (v := .slice none 0 0) rfl; have t0 := BR3.out.fz 0; have t1 := BR3.out.fz 1; have z2 : w.heap.size + 1 < w3.heap.size := BR3.out.lt; clear hov hb3 BM3; rcases ov with _ | _)
   | (go_at_call 30; (with_reducible refine (inOrder_any _ (z, l) mk K kk _ (HMa.out.later HB3.out (Nat.le_refl _)) h60 HM3.out HBn2.out).mono ?_); rintro e w4 ⟨v4, rfl, hm4, hb4⟩; have HM4 := hidP hm4; obtain ⟨a4, c4, rfl⟩ := hm4.sl; have HB4 : Hid (Below w.heap.size w w4) := HB3.out.trans (hb4.mono HB3.out.size); have BR4 := hidP (BR3.out.below hb4 BR3.out.lt); have x0 := BR4.out.cell 0 (v := .int .i64 0) rfl; have x1 := BR4.out.cell 1 (v := .slice none 0 0) rfl; have tt0 := BR4.out.fz 0; have tt1 := BR4.out.fz 1; have z4 : w.heap.size + 1 < w4.heap.size := BR4.out.lt; clear hm4 hb4))
  ·exact bodyPost_ret (v := .tuple #[.agg #[.int .i64 0, .slice a4 (ordL l.length K).length c4], .int .i64 0]) (by simp [results, Try.results10, go_sem, *]) rfl ⟨(0, ordL l.length K), 0, .inr ⟨HF.out, K, HC2.out, .inr ⟨(by simpa using HOV.out), rfl, rfl⟩⟩, _, rfl, ⟨_, rfl, ((HM4.out.set (by show w.heap.size + 1 < _; omega) _).set (by show w.heap.size + 1 < _; omega) _).marks⟩, by have h9 := HB4.out; go_grown⟩
  ·exact bodyPost_ret (v := .tuple #[.agg #[.int .i64 0, .slice none 0 0], .int .i64 4]) (by simp [results, Try.results10, go_sem, *]) rfl ⟨(0, []), 4, .inr ⟨HF.out, K, HC2.out, .inl ⟨by simpa using HOV.out, rfl, rfl⟩⟩, _, rfl, ⟨_, rfl, [], .inl ⟨rfl, rfl⟩, rfl, by simp⟩, by have h9 := HB3.out; go_grown⟩
 ·have HF := hidP hf
  generalize hq : faultM (z, l) = q at *
  have HQ := hidP hq
  clear hq
  go_enter Try.func10, Try.ntmps10
  go_wp2_with (first
   | (go_at_call 27; (with_reducible refine (coreCheck_any _ (z, l) _ (HMa.out.later HU.out (Nat.le_refl _)) HK.out q HQ.out).mono ?_); rintro e w1 ⟨rfl, hb⟩; obtain ⟨s1, b1, b2, hb1⟩ := boxedTwo hb (by simp); have HB1 := hidP hb1; have y0 := b2.cell 0 (v := .int .i64 0) rfl; have y1 := b2.cell 1 (v := .slice none 0 0) rfl; have t0 := b2.fz 0; have t1 := b2.fz 1; have z2 : w.heap.size + 1 < w1.heap.size := b2.lt; clear hb hb1 b1 b2))
  exact bodyPost_ret (v := .tuple #[.agg #[.int .i64 0, .slice none 0 0], .int .i64 q]) (by simp [results, Try.results10, go_sem, *]) rfl ⟨(0, []), q, .inl ⟨by rw [HQ.out]; exact HF.out, rfl, HQ.out.symm⟩, _, rfl, ⟨_, rfl, [], .inl ⟨rfl, rfl⟩, rfl, by simp⟩, by have h9 := HB1.out; go_grown⟩
end Go.Proofs.Ytkeeiihaijhdoaa.Sm
