/- best.cheapest: of each place, what the n cheapest ways to it cost. -/
import Derived.Test.YtfpibdaedfilaaaHar
import Derived.Test.YtfpibdaedfilaaaHas
import Derived.Test.YtfpibdaedfilaaaHat
namespace Go.Proofs.Ytfpibdaedfilaaa.Bw
open Go.ChangeShapes Go.WideShapes Go.ChangeAt Go.RowKit
open Go.Proofs.Ytfpibdaedfilaaa.Pl Go.Proofs.Ytfpibdaedfilaaa.Wt
set_option linter.unusedVariables false
set_option linter.unusedSimpArgs false
def lenW : Value → Nat
 | .slice _ n _ => n
 | _ => 0
def sumT (w : World) (T : Nat) : Nat := match w.heap[T]? with
 | some (.cells cs _ _) => (cs.toList.map lenW).sum
 | _ => 0
def lenB (w : World) (B : Nat) : Nat := match w.cell? ⟨B, 0, none⟩ with
 | some v => lenW v
 | none => 0
theorem sumT_tab {w : World} {base T N : Nat} {rows : List Value} {F : List (List Int)} {k : Nat} {et rt : TypeId} (h : RowT k encT et rt w base T N rows (fun j => el F j)) (hF : F.length = N) : sumT w T = totF F := by
 have hb := h.blk
 unfold Blk at hb
 unfold sumT totF
 rw [hb]
 simp only
 congr 1
 refine List.ext_getElem (by simp; rw [h.len, hF]) fun j h1 h2 => ?_
 simp only [List.getElem_map]
 have hj : j < N := by simpa [h.len] using h1
 have h3 := h.row j hj
 obtain ⟨a, cap, e⟩ := own_slW h3
 have hl := h.len
 rw [el_get (by omega)] at e
 rw [e, el_get (by omega)]
 rfl
theorem lenB_var {w : World} {B : Nat} {a : Option Addr} {n cap : Nat} {t : TypeId} (h : Blk w B #[.slice a n cap] t) : lenB w B = n := by
 unfold lenB
 rw [h.cell 0 (v := .slice a n cap) rfl]
 rfl
structure ChpAt (w0 w : World) (T B N : Nat) (rows : List Value) (F : List (List Int)) (v : Value) (hs : List Ar) : Prop where
 tab : RowT 2 encT 69 66 w w0.heap.size T N rows (fun j => el F j)
 var : Blk w B #[v] 136
 heap : w.ownsRow w0.heap.size 134 3 v hs.length (hs.flatMap encW)
 bel : Below w0.heap.size w0 w
 sT : w0.heap.size ≤ T
 sB : w0.heap.size ≤ B
 fl : F.length = N
theorem ChpAt.size {w0 w : World} {T B N : Nat} {rows : List Value} {F : List (List Int)} {v : Value} {hs : List Ar} (h : ChpAt w0 w T B N rows F v hs) : w0.heap.size ≤ w.heap.size := h.bel.size
theorem ChpAt.turn {w0 w w' : World} {T B N : Nat} {rows : List Value} {F : List (List Int)} {v v' : Value} {hs hs' : List Ar} (h : ChpAt w0 w T B N rows F v hs) (ht : Turn2 w w' B v.ownBlock) (hb : Blk w' B #[v'] 136) (ho : w'.ownsRow w0.heap.size 134 3 v' hs'.length (hs'.flatMap encW)) : ChpAt w0 w' T B N rows F v' hs' := by
 have hTB : T ≠ B := fun e => by
  have h1 := h.tab.blk
  have h2 := h.var
  subst e
  unfold Blk at h1 h2
  rw [h1] at h2
  simp at h2
 refine ⟨h.tab.turn ht hTB (own_ne h.heap h.tab.blk (by decide)) (fun j hj e => own_ne (h.tab.row j hj) h.var (by decide) e.symm) (fun j hj => ?_), hb, ho, h.bel.trans (ht.below h.sB (fun k hk => (h.heap.lt k hk).1) h.size), h.sT, h.sB, h.fl⟩
 rcases own_apart (h.tab.row j hj) h.heap (by decide) with e | e
 ·exact .inl e
 ·exact .inr e
theorem ChpAt.later {w0 w w' : World} {T B N : Nat} {rows : List Value} {F : List (List Int)} {v : Value} {hs : List Ar} (h : ChpAt w0 w T B N rows F v hs) (hb : Below w.heap.size w w') : ChpAt w0 w' T B N rows F v hs :=
 ⟨h.tab.later hb, h.var.below hb h.var.lt, ownBelow h.heap hb, h.bel.trans (hb.mono h.size), h.sT, h.sB, h.fl⟩
theorem putF_set {F : List (List Int)} {t : Nat} (ht : t < F.length) (x : Int) : putF t x (fun j => el F j) = fun j => el (F.set t (el F t ++ [x])) j := by
 funext j
 unfold putF
 rw [el_setF ht]
 by_cases h : j = t
 ·subst h; simp
 ·rw [if_neg h, if_neg h]
theorem ChpAt.push {w0 w w2 : World} {T B N t : Nat} {rows : List Value} {F : List (List Int)} {v vn : Value} {hs : List Ar} {c : Int} {ob : Obj} (h : ChpAt w0 w T B N rows F v hs) (ht : t < N) (hg : (w.alloc ob).grownBy w2 (el rows t).ownBlock) (htab : RowT 2 encT 69 66 (w2.setCell ⟨T, t, none⟩ vn) w0.heap.size T N (rows.set t vn) (putF t c (fun j => el F j))) : ChpAt w0 (w2.setCell ⟨T, t, none⟩ vn) T B N (rows.set t vn) (F.set t (el F t ++ [c])) v hs := by
 have h1 : w2.ownsRow w0.heap.size 134 3 v hs.length (hs.flatMap encW) := (h.heap.alloc ob).kept hg (own_apart h.heap (h.tab.row t ht) (by decide))
 have hT2 : Blk w2 T rows.toArray 66 := (h.tab.blk.alloc ob).grown hg (own_ne ((h.tab.alloc ob).row t ht) (h.tab.blk.alloc ob) (by decide))
 rw [putF_set (by rw [h.fl]; exact ht)] at htab
 exact ⟨htab, (h.tab.kBlk ht hg h.var (by decide) (by decide) vn).2, h1.kept (gSet w2 T t vn) (.inr (Ne.symm (own_ne h1 hT2 (by decide)))), h.tab.kBel ht hg h.bel (Nat.le_refl _) h.sT h.size vn, h.sT, h.sB, by rw [List.length_set]; exact h.fl⟩
theorem el_push_le {F : List (List Int)} {n : Nat} (h : ∀ p, p < F.length → (el F p).length ≤ n) {t : Nat} (ht : t < F.length) (hl : (el F t).length < n) (x : Int) : totF (F.set t (el F t ++ [x])) = totF F + 1 ∧ totF F + 1 ≤ F.length * n := by
 refine ⟨totF_set ht x, ?_⟩
 rw [← totF_set ht x]
 have := totF_le (n := n) (F := F.set t (el F t ++ [x])) fun p hp => by
  rw [List.length_set] at hp
  rw [el_setF ht]
  split
  ·simp; omega
  ·exact h p hp
 rw [List.length_set] at this
 exact this
theorem own_one {w : World} {base : Nat} (x : Ar) (hb : base ≤ w.heap.size) : (w.alloc (.cells (encW x).toArray 134)).ownsRow base 134 3 (.slice (some ⟨w.heap.size, 0, none⟩) 1 1) 1 ([x].flatMap encW) := by
 refine ⟨by simp [encW], .inr ⟨w.heap.size, 1, (encW x).toArray, rfl, hb, ?_, Nat.le_refl _, by unfold maxLen; omega, by simp [encW], by simp [encW]⟩⟩
 have h9 := Blk.made w (encW x).toArray 134
 exact h9
theorem whPopC {S : List (List Ar)} {N n start : Nat} {F : List (List Int)} (B base : Nat) (v : Value) (hs : List Ar) (w : World) (hB : Blk w B #[v] 136) (hown : w.ownsRow base 134 3 v hs.length (hs.flatMap encW)) (h0 : 0 < hs.length) (hn : hs.length ≤ 9000000) (hH : HeapW hs hs.length) (hC : CkI S n start F hs) (hl : S.length = N) :
  Calls Try.prog 72 #[.iface 137 (.pointer (some ⟨B, 0, none⟩))] w fun e w' => ∃ (t : Nat) (x : Ar), e = .returned (.iface 134 (.agg #[.int .i64 (t : Int), .int .i64 (kA x.2.2.2), .int .i64 (kB x.2.2.2)])) ∧ x.1 = (t : Int) ∧ t < N ∧ ∃ v' hs', HeapW hs' hs'.length ∧ (x :: hs').Perm hs ∧ (∀ y ∈ hs', x.2.2.2 ≤ y.2.2.2) ∧ Blk w' B #[v'] 136 ∧ w'.ownsRow base 134 3 v' hs'.length (hs'.flatMap encW) ∧ Turn2 w w' B v.ownBlock := by
 refine (whPop_any B base v hs w hB hown h0 hn hH).mono ?_
 rintro e w' ⟨x, rfl, v', hs', h1, h2, h3, h4, h5, h6, h7⟩
 obtain ⟨t, hxt, htn⟩ := hC.key.hto x (h2.mem_iff.1 (List.mem_cons_self ..))
 rw [hl] at htn
 exact ⟨t, x, by rw [wayV, hxt], hxt, htn, v', hs', h1, h2, h3, h4, h5, h7⟩
def HeldCf (T t : Nat) (v : Value) (X : Nat) (x0 x1 x2 : Int) (w : World) : Prop := w.cell? ⟨T, t, none⟩ = some v ∧ w.cell? ⟨X, 0, none⟩ = some (.int .i64 x0) ∧ w.cell? ⟨X, 1, none⟩ = some (.int .i64 x1) ∧ w.cell? ⟨X, 2, none⟩ = some (.int .i64 x2)
def HeldCp (X : Nat) (x1 x2 : Int) (Y : Nat) (y0 y1 y2 : Int) (w : World) : Prop := w.cell? ⟨X, 1, none⟩ = some (.int .i64 x1) ∧ w.cell? ⟨X, 2, none⟩ = some (.int .i64 x2) ∧ w.cell? ⟨Y, 0, none⟩ = some (.int .i64 y0) ∧ w.cell? ⟨Y, 1, none⟩ = some (.int .i64 y1) ∧ w.cell? ⟨Y, 2, none⟩ = some (.int .i64 y2)
def CkR (S : List (List Ar)) (N n start : Nat) (F : List (List Int)) (hs : List Ar) : Prop := CkI S n start F hs ∧ HeapW hs hs.length ∧ (N * n - totF F) * 501 + hs.length ≤ 700000 ∧ totF F ≤ N * n
set_option maxRecDepth 100000 in
set_option maxHeartbeats 9600000 in
theorem cheapest_any (start n N T0 : Nat) (rows0 : List Value) (S : List (List Ar)) (w : World) (hN : N ≤ 64) (hn : n ≤ 20) (hs0 : start < N) (hS : StsOk S) (hl : S.length = N) (hT : StpT w T0 N rows0 S) (h500 : ∀ q, q < N → (el S q).length ≤ 500) :
  Calls Try.prog 52 #[.int .i64 (start : Int), .slice (some ⟨T0, 0, none⟩) N N, .int .i64 (n : Int)] w fun e w' => ∃ T rows F, e = .returned (.slice (some ⟨T, 0, none⟩) N N) ∧ RowT 2 encT 69 66 w' w.heap.size T N rows (fun j => el F j) ∧ CkI S n start F [] ∧ w.heap.size ≤ T ∧ Below w.heap.size w w' := by
 have HST := hidP hT
 have H5 := hidP h500
 have HSO := hidP hS
 have HSL := hidP hl
 have hNn : N * n ≤ 1280 := Nat.mul_le_mul hN hn
 have HNn := hidP hNn
 have HBEG : Hid (CkR S N n start (List.replicate N []) [((start : Int), 0, 0, 0)]) := by
  have h9 := CkI.begin (S := S) (n := n) (start := start) (by rw [hl]; exact hs0)
  rw [hl] at h9
  have e : totF (List.replicate N ([] : List Int)) = 0 := by simp [totF]
  refine ⟨h9, ?_, ?_, ?_⟩
  ·intro k h0 hk
   simp at hk
   omega
  ·rw [e]; simp; omega
  ·rw [e]; omega
 clear hT h500 hS hl hs0 hNn
 have hmk := run_rowsT N (by omega)
 have hta := assert_way
 have HENC : Hid (encW ((start : Int), 0, 0, 0) = [.int .i64 start, .int .i64 0, .int .i64 0]) := by
  have h9 := encW_fin (start : Int) 0
  rw [Int.zero_mul] at h9
  exact h9
 have HW0 : Hid (ChpAt w (((w.alloc (.cells (List.replicate N (Value.slice none 0 0)).toArray 66)).alloc (.cells #[.int .i64 start, .int .i64 0, .int .i64 0] 134)).alloc (.cells #[.slice (some ⟨w.heap.size + 1, 0, none⟩) 1 1] 136)) w.heap.size (w.heap.size + 1 + 1) N (List.replicate N (.slice none 0 0)) (List.replicate N []) (.slice (some ⟨w.heap.size + 1, 0, none⟩) 1 1) [((start : Int), 0, 0, 0)]) := by
  have k1 := Blk.made w (List.replicate N (Value.slice none 0 0)).toArray 66
  have k2 := own_one (w := w.alloc (.cells (List.replicate N (Value.slice none 0 0)).toArray 66)) (base := w.heap.size) ((start : Int), 0, 0, 0) (by simp)
  rw [HENC.out] at k2
  have k3 := Blk.made ((w.alloc (.cells (List.replicate N (Value.slice none 0 0)).toArray 66)).alloc (.cells #[.int .i64 start, .int .i64 0, .int .i64 0] 134)) #[.slice (some ⟨w.heap.size + 1, 0, none⟩) 1 1] 136
  simp only [World.size_alloc] at k1 k2 k3
  refine ⟨?_, k3, k2.alloc _, (((Below.refl _ _).alloc (Nat.le_refl _) _).alloc (by simp) _).alloc (by simp; omega) _, Nat.le_refl _, by omega, by simp⟩
  have h9 : RowT 2 encT 69 66 (w.alloc (.cells (List.replicate N (Value.slice none 0 0)).toArray 66)) w.heap.size w.heap.size N (List.replicate N (.slice none 0 0)) (fun _ => []) := RowT.start k1
  have e : (fun j => el (List.replicate N ([] : List Int)) j) = fun _ => [] := by
   funext j
   exact el_nils N j
  rw [e]
  exact (h9.alloc _).alloc _
 clear HENC
 simp only [List.toArray_replicate] at HW0
 go_enter Try.func52, Try.ntmps52
 go_wp2
 generalize w.heap.size + 1 + 1 = B at *
 have HWW : Hid (w.heap.size ≤ w.heap.size) := Nat.le_refl _
 generalize hTT : w.heap.size = T at *
 have HTT := hidP hTT
 clear hTT
 go_loopw [] (fun wr => ∃ (rows : List Value) (F : List (List Int)) (v : Value) (hs : List Ar), Hid (CkR S N n start F hs) ∧ Hid (ChpAt w wr T B N rows F v hs)) (fun wr => (N * n - sumT wr T) * 501 + lenB wr B)
 case atStart => exact ⟨_, _, _, _, HBEG, HW0⟩
 case round =>
  clear HW0 HBEG
  obtain ⟨rows, F, v, hs, hI, hT⟩ := hrel
  obtain ⟨w3, hw3⟩ : ∃ w3, w3 = wr := ⟨_, rfl⟩
  subst hw3
  have hlen : hs.length ≤ 700000 := by have := hI.out.2.2.1; omega
  obtain ⟨av, cv, hv⟩ := own_slW hT.out.heap
  subst hv
  have HMS : Hid ((N * n - sumT w3 T) * 501 + lenB w3 B = (N * n - totF F) * 501 + hs.length) := by show _ = _; rw [sumT_tab hT.out.tab hT.out.fl, lenB_var hT.out.var]
  have cB := hT.out.var.cell 0 (v := .slice av hs.length cv) rfl
  by_cases hz : hs.length = 0
  ·have hz' : ((hs.length : Nat) : Int) = 0 := by omega
   have HDN : Hid (CkI S n start F []) := by
    have h9 := hI.out.1
    rw [List.eq_nil_of_length_eq_zero hz] at h9
    exact h9
   go_wp2_with (first
    | (go_at_call 80; (with_reducible refine (wLen_any _ _ _ _).mono ?_); rintro e w4 ⟨rfl, rfl⟩))
   go_ret
   exact ⟨_, rows, F, rfl, hT.out.tab, HDN.out, hT.out.sT, hT.out.bel⟩
  ·have hz' : (0 : Int) < ((hs.length : Nat) : Int) := by omega
   have HPO := hidP (whPopC B w.heap.size _ hs w3 hT.out.var hT.out.heap (by omega) (by omega) hI.out.2.1 hI.out.1 HSL.out)
   go_wp2_with (first
    | (go_at_call 80; (with_reducible refine (wLen_any _ _ _ _).mono ?_); rintro e w4 ⟨rfl, rfl⟩)
    | (go_at_call 72; go_loud ((with_reducible refine HPO.out.mono ?_); rintro e w5 ⟨t, x, rfl, hxt, htn, v5, hs5, hh5, hp5, hle5, hb5, ho5, ht5⟩; have HX5 := hidP (And.intro (hI.out.1.perm hp5) (And.intro hh5 (And.intro hle5 hxt))); have HGR : Hid (some w5.heap.size ≠ v5.ownBlock) := (fun e9 => (by have h9 := (ho5.lt _ e9.symm).2; omega)); have hL5 : hs.length = hs5.length + 1 := (by have h9 := hp5.length_eq; rw [List.length_cons] at h9; exact h9.symm); have HT50 := hT.out.turn ht5 hb5 ho5; clear hh5 hp5 hle5 hb5 ho5 ht5 hxt; generalize hxc : x.2.2.2 = c at *; have HXC := hidP hxc; clear hxc; generalize hca : kA c = ca at *; generalize hcb : kB c = cb at *; have HT5 := hidP (HT50.later ((Below.refl _ _).alloc (Nat.le_refl _) (.cells #[.int .i64 (t : Int), .int .i64 ca, .int .i64 cb] 134))); have HB5 : Hid (Blk (w5.alloc (.cells #[.int .i64 (t : Int), .int .i64 ca, .int .i64 cb] 134)) w5.heap.size #[.int .i64 (t : Int), .int .i64 ca, .int .i64 cb] 134) := Blk.made _ _ _; obtain ⟨fa, fc, hfv⟩ := own_slW (HT5.out.tab.row t htn); have HFV := hidP hfv; have t0 : (0 : Int) ≤ (t : Int) := Int.natCast_nonneg _; have t1 : (t : Int) < (N : Int) := (by omega); have cT := HT5.out.tab.cell htn; rw [hfv] at cT; have HCA := hidP (And.intro hca hcb); clear HT50 hfv hca hcb; generalize hLF : (el F t).length = LF at *; have HLF := hidP hLF; clear hLF; by_cases hfull : LF = n)))
   ·have HDR := hidP (CkI.drop (q := t) HX5.out.1 HX5.out.2.2.2 (HLF.out.trans hfull))
    obtain ⟨a5, c5, hv5⟩ := own_slW HT5.out.heap
    subst hv5
    have h1 := sumT_tab HT5.out.tab HT5.out.fl
    have h2 := lenB_var HT5.out.var
    have h3 := hI.out.2.2
    refine ⟨⟨rows, F, _, hs5, ⟨HDR.out, HX5.out.2.1, by omega, h3.2⟩, HT5⟩, ?_⟩
    rw [HMS.out, h1, h2]
    omega
   ·have hfew : LF < n := by have h9 := hI.out.1.key.few t (by rw [HSL.out]; exact htn); rw [HLF.out] at h9; omega
    have HFD := hidP (CkI.find (q := t) HSO.out (by rw [HSL.out]; have := HNn.out; omega) HX5.out.1 HX5.out.2.2.2 (by rw [HLF.out]; exact hfew) (by rw [HXC.out]; exact HX5.out.2.2.1))
    rw [HXC.out] at HFD
    have HTF : Hid (totF (F.set t (el F t ++ [c])) = totF F + 1 ∧ totF F + 1 ≤ N * n) := by
     have h9 := el_push_le (F := F) (n := n) (fun p hp => hI.out.1.key.few p (by rw [HSL.out, ← HT5.out.fl]; exact hp)) (t := t) (by rw [HT5.out.fl]; exact htn) (by rw [HLF.out]; exact hfew) c
     rw [HT5.out.fl] at h9
     exact h9
    have HKC : Hid (KeyOk c) := by have h9 := (HX5.out.1.okH x (List.mem_cons_self ..)).1; rw [HXC.out] at h9; exact h9
    have HF5 := hidP (And.intro HX5.out.2.1 (show hs5.length ≤ 700000 by omega))
    have HBD := hidP (And.intro hI.out.2.2.1 hL5)
    generalize w5.alloc (.cells #[.int .i64 (t : Int), .int .i64 ca, .int .i64 cb] 134) = W5 at *
    generalize w5.heap.size = X at *
    have hENC : encT c = [.int .i64 ca, .int .i64 cb] := by unfold encT; rw [HCA.out.1, HCA.out.2]
    have D5 := hidP (HT5.out.later (w' := W5.drew) ((Below.refl W5.heap.size W5).drew))
    have X5 := hidP HB5.out.drew
    obtain ⟨xa, xc, va, vc, w7, hx, r7, t7, g7, c7, f7⟩ := pushT D5.out.tab htn (by show (el F t).length ≤ _; rw [HLF.out]; omega) D5.out.size c
    simp only [HLF.out] at hx r7 t7 c7
    rw [HFV.out] at hx
    simp only [Value.slice.injEq, true_and] at hx
    obtain ⟨rfl, rfl⟩ := hx
    have C8 := hidP (D5.out.push htn g7 t7)
    rw [hENC] at r7 g7
    have HS : HeldCf T t (.slice fa LF fc) X t ca cb W5.drew := ⟨by rw [← HFV.out]; exact D5.out.tab.cell htn, X5.out.cell 0 rfl, X5.out.cell 1 rfl, X5.out.cell 2 rfl⟩
    have HS6 : HeldCf T t (.slice fa LF fc) X t ca cb (W5.drew.alloc (.cells #[.int .i64 ca, .int .i64 cb] 69)) := ⟨by rw [← HFV.out]; exact (D5.out.tab.alloc _).cell htn, (X5.out.alloc _).cell 0 rfl, (X5.out.alloc _).cell 1 rfl, (X5.out.alloc _).cell 2 rfl⟩
    obtain ⟨X7, X8⟩ := D5.out.tab.kBlk htn g7 X5.out (by decide) (by decide) (.slice va (LF + 1) vc)
    have X8 := hidP X8
    have HS7 : HeldCf T t (.slice fa LF fc) X t ca cb w7 := ⟨c7, X7.cell 0 rfl, X7.cell 1 rfl, X7.cell 2 rfl⟩
    have R7 := hidP r7
    clear r7 t7 g7 X7 cT cB hfull hfew
    refine region_anyL (HeldCf T t (.slice fa LF fc) X t ca cb) 13 (by kernel_rfl) ?_
    refine anyL_tk (i := 0) (v := ?v0_1) aZ0 (by kernel_rfl) ?y0_1 HS ?r0_1
    case y0_1 => intro wx hx; obtain ⟨h0, h1, h2, h3⟩ := hx; go_simp; try (with_reducible rfl)
    simp only [Act.put, List.setIfInBounds_toArray, List.set_cons_zero, List.set_cons_succ]
    refine anyL_tk (i := 1) (v := ?v1_2) aZ1 (by kernel_rfl) ?y1_2 HS ?r1_2
    case y1_2 => intro wx hx; obtain ⟨h0, h1, h2, h3⟩ := hx; go_simp; try (with_reducible rfl)
    simp only [Act.put, List.setIfInBounds_toArray, List.set_cons_zero, List.set_cons_succ]
    refine anyL_tk (i := 2) (v := ?v2_3) aZ2 (by kernel_rfl) ?y2_3 HS ?r2_3
    case y2_3 => intro wx hx; obtain ⟨h0, h1, h2, h3⟩ := hx; go_simp; try (with_reducible rfl)
    simp only [Act.put, List.setIfInBounds_toArray, List.set_cons_zero, List.set_cons_succ]
    refine anyL_tk (i := 3) (v := ?v3_4) aZ3 (by kernel_rfl) ?y3_4 HS ?r3_4
    case y3_4 => intro wx hx; obtain ⟨h0, h1, h2, h3⟩ := hx; go_simp; try (with_reducible rfl)
    simp only [Act.put, List.setIfInBounds_toArray, List.set_cons_zero, List.set_cons_succ]
    refine anyL_tk (i := 4) (v := ?v4_5) aZ4 (by kernel_rfl) ?y4_5 HS ?r4_5
    case y4_5 => intro wx hx; obtain ⟨h0, h1, h2, h3⟩ := hx; go_simp; try (with_reducible rfl)
    simp only [Act.put, List.setIfInBounds_toArray, List.set_cons_zero, List.set_cons_succ]
    refine anyL_tk (i := 5) (v := ?v5_6) aZ5 (by kernel_rfl) ?y5_6 HS ?r5_6
    case y5_6 => intro wx hx; obtain ⟨h0, h1, h2, h3⟩ := hx; go_simp; try (with_reducible rfl)
    simp only [Act.put, List.setIfInBounds_toArray, List.set_cons_zero, List.set_cons_succ]
    refine anyL_tk (i := 6) (v := ?v6_7) aZ6 (by kernel_rfl) ?y6_7 HS ?r6_7
    case y6_7 => intro wx hx; obtain ⟨h0, h1, h2, h3⟩ := hx; go_simp; try (with_reducible rfl)
    simp only [Act.put, List.setIfInBounds_toArray, List.set_cons_zero, List.set_cons_succ]
    refine anyL_tk (i := 7) (v := ?v7_8) aZ7 (by kernel_rfl) ?y7_8 HS ?r7_8
    case y7_8 => intro wx hx; obtain ⟨h0, h1, h2, h3⟩ := hx; go_simp; try (with_reducible rfl)
    simp only [Act.put, List.setIfInBounds_toArray, List.set_cons_zero, List.set_cons_succ]
    refine anyL_tk (i := 8) (v := ?v8_9) aZ8 (by kernel_rfl) ?y8_9 HS ?r8_9
    case y8_9 => intro wx hx; obtain ⟨h0, h1, h2, h3⟩ := hx; go_simp; try (with_reducible rfl)
    simp only [Act.put, List.setIfInBounds_toArray, List.set_cons_zero, List.set_cons_succ]
    refine anyL_tk (i := 9) (v := ?v9_10) aZ9 (by kernel_rfl) ?y9_10 HS ?r9_10
    case y9_10 => intro wx hx; obtain ⟨h0, h1, h2, h3⟩ := hx; go_simp; try (with_reducible rfl)
    simp only [Act.put, List.setIfInBounds_toArray, List.set_cons_zero, List.set_cons_succ]
    refine anyL_one (i := 10) aZ10 (by kernel_rfl) rfl (fun K hK => ?_)
    go_simp
    refine hK _ _ (.inr HS6) ?_
    try simp only [Act.put, List.setIfInBounds_toArray, List.set_cons_zero, List.set_cons_succ]
    refine anyL_one (i := 11) aZ11 (by kernel_rfl) rfl (fun K hK => ?_)
    refine wp_append_run (.tmp 39) (.tmp 42) 66 rfl rfl rfl R7.out ?_
    refine hK _ _ (.inr HS7) ?_
    try simp only [Act.put, List.setIfInBounds_toArray, List.set_cons_zero, List.set_cons_succ]
    refine anyL_tk (i := 12) (v := ?v12_11) aZ12 (by kernel_rfl) ?y12_11 HS7 ?r12_11
    case y12_11 => intro wx hx; obtain ⟨h0, h1, h2, h3⟩ := hx; go_simp; try (with_reducible rfl)
    simp only [Act.put, List.setIfInBounds_toArray, List.set_cons_zero, List.set_cons_succ]
    refine anyL_one (i := 13) aZ13 (by kernel_rfl) rfl (fun K hK => ?_)
    go_simp
    refine hK _ _ (.inl rfl) (anyL_done (by kernel_rfl) (NoPanic.normal ?_))
    try simp only [Act.put, List.setIfInBounds_toArray, List.set_cons_zero, List.set_cons_succ]
    clear HS HS6 HS7 c7 f7 HT5 HB5
    generalize w7.setCell ⟨T, t, none⟩ (.slice va (LF + 1) vc) = W8 at *
    generalize rows.set t (.slice va (LF + 1) vc) = rows8 at *
    obtain ⟨c0, hR⟩ := HST.out.2 t htn
    have c0 := (C8.out.bel.cell (p := ⟨T0, t, none⟩) HST.out.1).trans c0
    obtain ⟨a2, cap2, hva, hga⟩ := rowW_get hR
    rw [hva] at c0
    have HGA := hidP hga
    have HL5 := hidP (H5.out t htn)
    have HSP : Hid (∀ s ∈ el S t, StpOk N s) := fun s hs => by
     have h9 := HSO.out t (by rw [HSL.out]; exact htn) s hs
     rw [HSL.out] at h9
     exact h9
    clear hR hga hva
    generalize el S t = r at *
    generalize F.set t (el F t ++ [c]) = F8 at *
    generalize hL : r.length = L at *
    have HL : Hid (r.length = L) := hL
    have hL500 : L ≤ 500 := HL5.out
    clear hL
    have x0 := X8.out.cell 0 (v := .int .i64 (t : Int)) rfl
    go_wp2
    clear c0 x0
    go_loopw [51] (fun i wr => ∃ (j : Nat) (v : Value) (hs : List Ar), j ≤ L ∧ i = .int .i64 j ∧ Hid (HeapW hs hs.length ∧ hs.Perm (hs5 ++ (r.take j).map fun s => (s.1, 0, 0, bothK c s.2.2.2))) ∧ Hid (ChpAt w wr T B N rows8 F8 v hs) ∧ Hid (Blk wr X #[.int .i64 (t : Int), .int .i64 ca, .int .i64 cb] 134) ∧ Hid (some X ≠ v.ownBlock)) (fun i _ => L - (intOf i).toNat)
    case atStart => exact ⟨0, v5, hs5, Nat.zero_le _, rfl, ⟨HF5.out.1, by simp⟩, C8, X8, HGR⟩
    case round =>
     clear C8 X8 HGR
     obtain ⟨j, v, hs2, hj, rfl, hq, hC, hX, hG⟩ := hrel
     have HLN : Hid (hs2.length = hs5.length + j) := by
      have h9 := hq.out.2.length_eq
      rw [List.length_append, List.length_map, List.length_take, HL.out] at h9
      show _ = _
      omega
     by_cases hjL : j < L
     ·obtain ⟨b3, off3, rfl, hb3l, e0, e1, e2⟩ := HGA.out j hjL
      have e0 := (hC.out.bel.cell (p := ⟨b3, off3 + j * 3, none⟩) hb3l).trans e0
      have e1 := (hC.out.bel.cell (p := ⟨b3, off3 + j * 3 + 1, none⟩) hb3l).trans e1
      have e2 := (hC.out.bel.cell (p := ⟨b3, off3 + j * 3 + 2, none⟩) hb3l).trans e2
      have hsp := HSP.out (el r j) (el_mem (by rw [HL.out]; exact hjL))
      obtain ⟨u, hu, hun⟩ := hsp.2
      have HTK := hidP (take_el (l := r) (k := j) (by rw [HL.out]; exact hjL))
      have HBO := hidP (fun W => both_any c (el r j).2.2.2 W HKC.out hsp.key)
      unfold kV at HBO
      rw [HCA.out.1, HCA.out.2] at HBO
      have HQ : Hid (wayV ((u : Int), 0, 0, bothK c (el r j).2.2.2) = .iface 134 (.agg #[.int .i64 u, .int .i64 (kA (bothK c (el r j).2.2.2)), .int .i64 (kB (bothK c (el r j).2.2.2))])) := rfl
      have HSU := hidP hu
      rw [hu] at e0
      clear hsp hu
      generalize el r j = sj at *
      generalize kA (bothK c sj.2.2.2) = za at *
      generalize kB (bothK c sj.2.2.2) = zb at *
      generalize kA sj.2.2.2 = y1 at *
      generalize kB sj.2.2.2 = y2 at *
      have hj0 : (0 : Int) ≤ (j : Int) := by omega
      have hj1 : (j : Int) < (L : Int) := by omega
      have C1 := hidP (hC.out.later ((Below.refl _ _).alloc (Nat.le_refl _) (.cells #[.int .i64 (u : Int), .int .i64 y1, .int .i64 y2] 134)))
      have X1 := hidP (hX.out.alloc (.cells #[.int .i64 (u : Int), .int .i64 y1, .int .i64 y2] 134))
      have A1 := hidP (Blk.made wr #[.int .i64 (u : Int), .int .i64 y1, .int .i64 y2] 134)
      have HGY : Hid (some wr.heap.size ≠ v.ownBlock) := fun e9 => by have h9 := (hC.out.heap.lt _ e9.symm).2; omega
      clear hC hX
      go_wp2
      generalize wr.alloc (.cells #[.int .i64 (u : Int), .int .i64 y1, .int .i64 y2] 134) = W1 at *
      generalize wr.heap.size = Y at *
      have HS : HeldCp X ca cb Y u y1 y2 W1.drew := ⟨X1.out.cell 1 rfl, X1.out.cell 2 rfl, A1.out.cell 0 rfl, A1.out.cell 1 rfl, A1.out.cell 2 rfl⟩
      clear e0 e1 e2
      refine region_anyL (HeldCp X ca cb Y u y1 y2) 1000 (by kernel_rfl) ?_
      refine anyL_tk (i := 0) (v := ?v0_12) aZ0 (by kernel_rfl) ?y0_12 HS ?r0_12
      case y0_12 => intro wx hx; obtain ⟨h0, h1, h2, h3, h4⟩ := hx; go_simp; try (with_reducible rfl)
      simp only [Act.put, List.setIfInBounds_toArray, List.set_cons_zero, List.set_cons_succ]
      refine anyL_tk (i := 1) (v := ?v1_13) aZ1 (by kernel_rfl) ?y1_13 HS ?r1_13
      case y1_13 => intro wx hx; obtain ⟨h0, h1, h2, h3, h4⟩ := hx; go_simp; try (with_reducible rfl)
      simp only [Act.put, List.setIfInBounds_toArray, List.set_cons_zero, List.set_cons_succ]
      refine anyL_tk (i := 2) (v := ?v2_14) aZ2 (by kernel_rfl) ?y2_14 HS ?r2_14
      case y2_14 => intro wx hx; obtain ⟨h0, h1, h2, h3, h4⟩ := hx; go_simp; try (with_reducible rfl)
      simp only [Act.put, List.setIfInBounds_toArray, List.set_cons_zero, List.set_cons_succ]
      refine anyL_tk (i := 3) (v := ?v3_15) aZ3 (by kernel_rfl) ?y3_15 HS ?r3_15
      case y3_15 => intro wx hx; obtain ⟨h0, h1, h2, h3, h4⟩ := hx; go_simp; try (with_reducible rfl)
      simp only [Act.put, List.setIfInBounds_toArray, List.set_cons_zero, List.set_cons_succ]
      refine anyL_tk (i := 4) (v := ?v4_16) aZ4 (by kernel_rfl) ?y4_16 HS ?r4_16
      case y4_16 => intro wx hx; obtain ⟨h0, h1, h2, h3, h4⟩ := hx; go_simp; try (with_reducible rfl)
      simp only [Act.put, List.setIfInBounds_toArray, List.set_cons_zero, List.set_cons_succ]
      refine anyL_tk (i := 5) (v := ?v5_17) aZ5 (by kernel_rfl) ?y5_17 HS ?r5_17
      case y5_17 => intro wx hx; obtain ⟨h0, h1, h2, h3, h4⟩ := hx; go_simp; try (with_reducible rfl)
      simp only [Act.put, List.setIfInBounds_toArray, List.set_cons_zero, List.set_cons_succ]
      refine anyL_tk (i := 6) (v := ?v6_18) aZ6 (by kernel_rfl) ?y6_18 HS ?r6_18
      case y6_18 => intro wx hx; obtain ⟨h0, h1, h2, h3, h4⟩ := hx; go_simp; try (with_reducible rfl)
      simp only [Act.put, List.setIfInBounds_toArray, List.set_cons_zero, List.set_cons_succ]
      refine anyL_one (i := 7) aZ7 (by kernel_rfl) rfl (fun K hK => ?_)
      go_simp
      with_reducible refine (HBO.out _).mono ?_
      rintro e w6 ⟨rfl, hb6⟩
      have hb6 : Below W1.heap.size W1 w6 := (Below.refl _ W1).drew.trans hb6
      have C6 := hidP (C1.out.later hb6)
      have X6 := hidP (X1.out.below hb6 X1.out.lt)
      have A6 := hidP (A1.out.below hb6 A1.out.lt)
      have HS6 : HeldCp X ca cb Y u y1 y2 w6 := ⟨X6.out.cell 1 rfl, X6.out.cell 2 rfl, A6.out.cell 0 rfl, A6.out.cell 1 rfl, A6.out.cell 2 rfl⟩
      have HPU := hidP (whPush_any B w.heap.size v hs2 ((u : Int), 0, 0, bothK c sj.2.2.2) w6 C6.out.var C6.out.heap C6.out.size (by rw [HLN.out]; have := HF5.out.2; omega) hq.out.1)
      rw [HQ.out] at HPU
      clear hb6
      refine hK _ _ (.inr HS6) ?_
      try simp only [Act.put, List.setIfInBounds_toArray, List.set_cons_zero, List.set_cons_succ]
      refine anyL_tk (i := 8) (v := ?v8_19) aZ8 (by kernel_rfl) ?y8_19 HS6 ?r8_19
      case y8_19 => intro wx hx; obtain ⟨h0, h1, h2, h3, h4⟩ := hx; go_simp; try (with_reducible rfl)
      simp only [Act.put, List.setIfInBounds_toArray, List.set_cons_zero, List.set_cons_succ]
      refine anyL_tk (i := 9) (v := ?v9_20) aZ9 (by kernel_rfl) ?y9_20 HS6 ?r9_20
      case y9_20 => intro wx hx; obtain ⟨h0, h1, h2, h3, h4⟩ := hx; go_simp; try (with_reducible rfl)
      simp only [Act.put, List.setIfInBounds_toArray, List.set_cons_zero, List.set_cons_succ]
      refine anyL_one (i := 10) aZ10 (by kernel_rfl) rfl (fun K hK => ?_)
      go_simp
      with_reducible refine HPU.out.mono ?_
      rintro e w7 ⟨rfl, v7, hs7, hh7, hp7, hb7, ho7, hn7, ht7⟩
      have C7 := hidP (C6.out.turn ht7 hb7 ho7)
      have hXB : X ≠ B := fun e9 => by
       have h1 := X6.out
       have h2 := C6.out.var
       subst e9
       unfold Blk at h1 h2
       rw [h1] at h2
       simp at h2
      have X7 := hidP (ht7.blk X6.out hXB hG.out)
      have G7 : Hid (some X ≠ v7.ownBlock) := by
       rcases hn7 with e9 | ⟨b9, e9, hb9⟩
       ·rw [e9]; exact hG.out
       ·rw [e9]; intro e8; simp at e8; have := X6.out.lt; omega
      have Q7 : Hid (HeapW hs7 hs7.length ∧ hs7.Perm (hs5 ++ (r.take (j + 1)).map fun s => (s.1, 0, 0, bothK c s.2.2.2))) := by
       refine ⟨hh7, hp7.trans ?_⟩
       rw [HTK.out, List.map_append, ← List.append_assoc]
       have e9 : ([sj].map fun s : Ar => (s.1, (0 : Int), (0 : Int), bothK c s.2.2.2)) = [((u : Int), 0, 0, bothK c sj.2.2.2)] := by simp [HSU.out]
       rw [e9]
       exact hq.out.2.append_right _
      have A7 := hidP (ht7.blk A6.out (fun e9 => by
       have h1 := A6.out
       have h2 := C6.out.var
       subst e9
       unfold Blk at h1 h2
       rw [h1] at h2
       simp at h2) HGY.out)
      have HS7 : HeldCp X ca cb Y u y1 y2 w7 := ⟨X7.out.cell 1 rfl, X7.out.cell 2 rfl, A7.out.cell 0 rfl, A7.out.cell 1 rfl, A7.out.cell 2 rfl⟩
      clear hh7 hp7 hb7 ho7 hn7 ht7 hXB
      refine hK _ _ (.inr HS7) (anyL_done (by kernel_rfl) (NoPanic.normal ?_))
      try simp only [Act.put, List.setIfInBounds_toArray, List.set_cons_zero, List.set_cons_succ]
      clear HS HS6 HS7
      go_wp2
      go_roundw
      case rel => exact ⟨j + 1, v7, hs7, by omega, by go_num, Q7, C7, X7, G7⟩
      case measure => simp [intOf]; omega
     ·have hnl : ¬ (j : Int) < (L : Int) := by omega
      obtain rfl : L = j := by omega
      have HCK : Hid (CkI S n start F8 hs2) := by
       have h9 := hq.out.2
       rw [← HL.out, List.take_length] at h9
       exact HFD.out.perm h9
      obtain ⟨a5, c5, hv5⟩ := own_slW hC.out.heap
      subst hv5
      have h1 := sumT_tab hC.out.tab hC.out.fl
      have h2 := lenB_var hC.out.var
      have h3 := HBD.out
      have h4 := HTF.out
      have h5 := HLN.out
      go_wp2
      refine ⟨⟨rows8, F8, _, hs2, ⟨HCK.out, hq.out.1, by omega, by omega⟩, hC⟩, ?_⟩
      rw [HMS.out, h1, h2]
      omega
end Go.Proofs.Ytfpibdaedfilaaa.Bw
