/- The n cheapest ways, with their keys; what they tell of a machine's paths (no program in sight). -/
import Derived.Test.YtfpibdaedfilaaaEad
import Derived.Test.YtfpibdaedfilaaaEab
import Derived.Test.YtfpibdaedfilaaaEac
import Derived.Test.YtfpibdaedfilaaaEaa
namespace Go.Proofs.Ytfpibdaedfilaaa.Pl
set_option linter.unusedVariables false
set_option linter.unusedSimpArgs false
def zR (r : List Ar) : List Ar := r.map fun s => (s.1, 0, 0, 0)
def zS (S : List (List Ar)) : List (List Ar) := S.map zR
def zF (F : List (List Int)) : List (List Int) := F.map fun r => r.map fun _ => 0
theorem el_mapZ {α β : Type} [Inhabited α] [Inhabited β] {f : α → β} (hf : f default = default) (L : List α) (j : Nat) : el (L.map f) j = f (el L j) := by
 by_cases h : j < L.length
 ·rw [el_get (by simpa using h), el_get h, List.getElem_map]
 ·simp [el, Nat.le_of_not_lt h, hf]
theorem el_zS (S : List (List Ar)) (q : Nat) : el (zS S) q = zR (el S q) := el_mapZ (f := zR) rfl S q
theorem el_zF (F : List (List Int)) (q : Nat) : el (zF F) q = (el F q).map fun _ => 0 := el_mapZ (f := fun r : List Int => r.map fun _ => 0) rfl F q
theorem zS_len (S : List (List Ar)) : (zS S).length = S.length := by simp [zS]
theorem zF_set (F : List (List Int)) (q : Nat) (v : List Int) : zF (F.set q v) = (zF F).set q (v.map fun _ => 0) := by
 unfold zF
 rw [List.map_set]
structure CkI (S : List (List Ar)) (n start : Nat) (F : List (List Int)) (H : List Ar) : Prop where
 key : CwI capK S n start F H
 all : CwI 1 (zS S) n start (zF F) (zR H)
 okH : ∀ x ∈ H, KeyOk x.2.2.2 ∧ (x.2.2.2 = noK ∨ kB x.2.2.2 ≤ totF F)
 okF : ∀ p, p < S.length → ∀ y ∈ el F p, KeyOk y
section
variable {S : List (List Ar)} {n start : Nat} {F : List (List Int)} {H : List Ar}
theorem CkI.begin (hs : start < S.length) : CkI S n start (List.replicate S.length []) [((start : Int), 0, 0, 0)] := by
 refine ⟨CwI.begin hs, ?_, fun x hx => ?_, fun p _ y hy => absurd hy (by rw [el_nils]; simp)⟩
 ·have h := CwI.begin (CAP := 1) (st := zS S) (n := n) (start := start) (by rw [zS_len]; exact hs)
  rw [zS_len] at h
  have e : zF (List.replicate S.length []) = List.replicate S.length [] := by simp [zF]
  rw [e]
  exact h
 ·rw [List.mem_singleton] at hx
  subst hx
  refine ⟨.inr (show 0 ≤ kA 0 ∧ kA 0 ≤ 1000000000 ∧ 0 ≤ kB 0 ∧ kB 0 ≤ 1000000000 by decide), .inr ?_⟩
  show kB 0 ≤ _
  rw [show kB 0 = 0 by decide]
  omega
theorem CkI.perm {H' : List Ar} (h : CkI S n start F H) (e : H'.Perm H) : CkI S n start F H' :=
 ⟨h.key.perm e, h.all.perm (e.map _), fun x hx => h.okH x (e.mem_iff.1 hx), h.okF⟩
theorem CkI.find {x : Ar} {q : Nat} (hS : StsOk S) (hsm : S.length * n ≤ 1000000) (h : CkI S n start F (x :: H)) (hx : x.1 = (q : Int)) (hl : (el F q).length < n) (hmin : ∀ y ∈ H, x.2.2.2 ≤ y.2.2.2) :
  CkI S n start (F.set q (el F q ++ [x.2.2.2])) (H ++ (el S q).map fun s => (s.1, 0, 0, bothK x.2.2.2 s.2.2.2)) := by
 obtain ⟨t, e, hq⟩ := h.key.hto x (List.mem_cons_self ..)
 have eq : t = q := by omega
 subst eq
 have hqF : t < F.length := by rw [h.key.len]; exact hq
 have htot : totF F ≤ 1000000 := by
  have := totF_le (n := n) (F := F) fun p hp => h.key.few p (by rw [← h.key.len]; exact hp)
  rw [h.key.len] at this
  omega
 have hxo := h.okH x (List.mem_cons_self ..)
 have hxb : x.2.2.2 = noK ∨ kB x.2.2.2 ≤ 1000000 := by
  rcases hxo.2 with g | g
  ·exact .inl g
  ·exact .inr (by omega)
 refine ⟨h.key.find e hl hmin hS.hw (fun s => bothK x.2.2.2 s) (fun s hs => ⟨bothK_ge hxo.1 (hS t hq s hs).1, fun c hc => bothK_le hxo.1 hxb (hS t hq s hs).1 hc⟩), ?_, fun y hy => ?_, fun p hp y hy => ?_⟩
 ·have h0 := CwI.find (x := (x.1, 0, 0, 0)) (q := t) (H := zR H) h.all e (by rw [el_zF, List.length_map]; exact hl) (fun y hy => by
   obtain ⟨z, _, rfl⟩ := List.mem_map.1 hy
   exact Int.le_refl _) (fun j hj s hs => by
   rw [el_zS] at hs
   obtain ⟨r, hr, rfl⟩ := List.mem_map.1 hs
   rw [zS_len] at hj ⊢
   exact ⟨Int.le_refl _, (hS j hj r hr).2⟩) (fun _ => 0) (fun s hs => by
   rw [el_zS] at hs
   obtain ⟨r, hr, rfl⟩ := List.mem_map.1 hs
   exact ⟨Int.le_refl _, fun c _ => by simp⟩)
  rw [el_zF, el_zS] at h0
  have e1 : zF (F.set t (el F t ++ [x.2.2.2])) = (zF F).set t ((el F t).map (fun _ => 0) ++ [0]) := by rw [zF_set, List.map_append]; rfl
  have e2 : zR (H ++ (el S t).map fun s => (s.1, 0, 0, bothK x.2.2.2 s.2.2.2)) = zR H ++ (zR (el S t)).map fun s => (s.1, 0, 0, 0) := by
   unfold zR
   rw [List.map_append, List.map_map, List.map_map]
   rfl
  rw [e1, e2]
  exact h0
 ·rw [totF_set hqF]
  rcases List.mem_append.1 hy with hy | hy
  ·obtain ⟨h1, h2⟩ := h.okH y (List.mem_cons_of_mem _ hy)
   refine ⟨h1, ?_⟩
   rcases h2 with g | g
   ·exact .inl g
   ·exact .inr (by omega)
  ·obtain ⟨s, hs, rfl⟩ := List.mem_map.1 hy
   have hs1 := hS t hq s hs
   obtain ⟨g1, g2⟩ := bothK_ok hxo.1 hs1.key
   refine ⟨g1, ?_⟩
   rcases g2 with g | g
   ·exact .inl g
   ·rcases hxo.2 with k | k
    ·left
     show bothK x.2.2.2 s.2.2.2 = noK
     rw [k]
     unfold bothK
     rw [if_neg]
     have := hs1.1
     rw [noK_parts.1]
     omega
    ·right
     show kB (bothK x.2.2.2 s.2.2.2) ≤ _
     have := hs1.1
     omega
 ·rw [el_setF hqF] at hy
  split at hy
  ·rcases List.mem_append.1 hy with hy | hy
   ·exact h.okF t hq y hy
   ·rw [List.mem_singleton.1 hy]; exact hxo.1
  ·exact h.okF p hp y hy
theorem CkI.drop {x : Ar} {q : Nat} (h : CkI S n start F (x :: H)) (hx : x.1 = (q : Int)) (hl : (el F q).length = n) : CkI S n start F H :=
 ⟨h.key.drop hx hl, h.all.drop (x := (x.1, 0, 0, 0)) hx (by rw [el_zF, List.length_map]; exact hl), fun y hy => h.okH y (List.mem_cons_of_mem _ hy), h.okF⟩
end
theorem RgtL.to {l : List St} (hR : RgtL l) : ∀ q, q < l.length → ∀ a ∈ (el l q).2, ∃ t : Nat, a.2.2.2 = (t : Int) ∧ t < l.length := fun q hq a ha => (hR.arc q hq a ha).2.2
theorem frt_of {m : Mc} {vs : List Int} (hr : faultM m = 0) (h : DstAns m (EndC m.2) vs 0) : FrT m.2 vs := by
 rcases h with ⟨h0, _⟩ | ⟨_, ⟨_, h1, h2⟩ | ⟨h0, _⟩⟩
 ·exact absurd hr h0
 ·refine ⟨h1, fun q hq => ?_⟩
  rcases h2 q hq with ⟨g1, g2, _⟩ | ⟨c, g1, ⟨g2, g3, _⟩ | ⟨_, _, g3⟩⟩
  ·exact .inl ⟨g2, g1⟩
  ·exact .inr ⟨c, g1, g2, g3⟩
  ·cases g3
 ·cases h0
theorem frt_rng {l : List St} {fr : List Int} (h : FrT l fr) {q : Nat} (hq : q < l.length) : 0 ≤ el fr q ∧ el fr q ≤ 1000000001 := by
 rcases h.val q hq with ⟨g, _⟩ | ⟨c, _, g1, g2⟩ <;> omega
def lfK (F : List (List Int)) (q : Nat) : Int := if (el F q).length = 0 then noK else el (el F q) 0
def LftT (l : List St) (fr : List Int) (q : Nat) (x : Int) : Prop := (el fr q = 1000000001 ∧ x = noK) ∨ (el fr q ≠ 1000000001 ∧ ∃ k, k < l.length ∧ LenA l fr q k ∧ x = el fr q * 2147483648 + (k : Int))
theorem left_found {l : List St} (hR : RgtL l) (hl : l.length ≤ 64) {F : List (List Int)} (h : CkI (trL (onL l)) 1 l.length F []) {fr : List Int} (hF : FrT l fr) {q : Nat} (hq : q < l.length) : LftT l fr q (lfK F q) := by
 have hS := trL_ok (onL_ok hR)
 have hX := XP.bak hR
 have hN : (trL (onL l)).length = l.length + 1 := by rw [trL_len, onL_len]
 have hto := hR.to
 have hw : ∀ q, q < l.length → ∀ a ∈ (el l q).2, 0 ≤ a.2.2.1 := fun q hq a ha => (hR.arc q hq a ha).1
 have hfin : ∀ q, q < l.length → 0 ≤ (el l q).1 := fun q hq => (hR.fin q hq).1
 have hK1 : (trL (onL l)).length * 1 + 1 ≤ 2 * l.length + 2 + 1 := by rw [hN]; omega
 have hc : ∀ c, c < capK → (0 < cLe (el F q) c ↔ ∃ j p d, j < 2 * l.length + 2 ∧ Run (ArcE l) q j p d ∧ p < l.length ∧ (el l p).1 ≠ 1000000001 ∧ ((d : Int) + (el l p).1) * 2147483648 + (j : Int) ≤ c) := fun c hcc => by
  rw [h.key.done hS.hw hK1 q (by rw [hN]; omega) c hcc, ← hX.pos hR (2 * l.length + 2) q c hq]
  omega
 have hfew := h.key.few q (by rw [hN]; omega)
 have hok := h.okF q (by rw [hN]; omega)
 unfold lfK
 by_cases h0 : el fr q = 1000000001
 ·refine .inl ⟨h0, ?_⟩
  split
  ·rfl
  ·rename_i g
   have hm := el_mem (show 0 < (el F q).length by omega)
   rcases hok _ hm with k | k
   ·exact k
   ·have hcap : el (el F q) 0 < capK := by unfold kA at k; unfold capK; omega
    have hpos : 0 < cLe (el F q) (el (el F q) 0) := List.countP_pos_iff.2 ⟨_, hm, by simp⟩
    obtain ⟨j, p, d, h1, h2, h3, h4, h5⟩ := (hc _ hcap).1 hpos
    have := (hF.le hq (c := d + (el l p).1.toNat) ⟨j, p, d, h2, h3, h4, rfl⟩).1
    exact absurd h0 this
 ·refine .inr ⟨h0, ?_⟩
  obtain ⟨k, hk, hL⟩ := len_exists hF hto hw hfin hq h0
  obtain ⟨r0, r1⟩ := frt_rng hF hq
  refine ⟨k, hk, hL, ?_⟩
  obtain ⟨p, d, g1, g2, g3, g4⟩ := hL.1.path hF hto hw hq
  have hcap : el fr q * 2147483648 + (k : Int) < capK := by unfold capK; omega
  have hpos : 0 < cLe (el F q) (el fr q * 2147483648 + (k : Int)) := (hc _ hcap).2 ⟨k, p, d, by omega, g1, g2, g3, by rw [g4]; exact Int.le_refl _⟩
  obtain ⟨x, hx, hxc⟩ := List.countP_pos_iff.1 hpos
  simp at hxc
  have hlen : (el F q).length = 1 := by
   have : 0 < (el F q).length := List.length_pos_of_mem hx
   omega
  have hx0 : x = el (el F q) 0 := by
   obtain ⟨i, hi, rfl⟩ := mem_el hx
   rw [show i = 0 by omega]
  rw [if_neg (by omega), ← hx0]
  have hxcap : x < capK := by omega
  obtain ⟨j, p', d', h1, h2, h3, h4, h5⟩ := (hc x hxcap).1 (List.countP_pos_iff.2 ⟨x, hx, by simp⟩)
  have f1 := hfin p' h3
  obtain ⟨m1, m2⟩ := hF.le hq (c := d' + (el l p').1.toNat) ⟨j, p', d', h2, h3, h4, rfl⟩
  by_cases he : (d' : Int) + (el l p').1 = el fr q
  ·have := hL.2 j (path_tg hF hto hw hfin hq h2 h3 h4 he)
   rw [he] at h5
   omega
  ·omega
theorem left_arc {l : List St} (hR : RgtL l) (hl : l.length ≤ 64) {fr : List Int} (hF : FrT l fr) {q t : Nat} {a : Ar} {x y : Int} (hq : q < l.length) (ha : a ∈ (el l q).2) (ht : a.2.2.2 = (t : Int)) (hx : LftT l fr t x) {k : Nat} (hk : LenA l fr q k) (hy : y = el fr q * 2147483648 + (k : Int)) (h0 : el fr q ≠ 1000000001) (hkl : k < l.length) :
  bothK (a.2.2.1 * 2147483648 + 1) x = y ↔ TgA fr q a ∧ ∃ j, k = j + 1 ∧ LenA l fr t j := by
 obtain ⟨w0, w1, t', e, htl⟩ := hR.arc q hq a ha
 have et : t' = t := by omega
 subst et
 have r := frt_rng hF hq
 have rt := frt_rng hF htl
 unfold TgA
 rw [ht, Int.toNat_natCast]
 rcases hx with ⟨g0, g1⟩ | ⟨g0, j, hj, hL, g1⟩
 ·constructor
  ·intro h
   exfalso
   rw [g1] at h
   unfold bothK at h
   rw [if_neg (by rw [noK_parts.1]; unfold kA; omega)] at h
   unfold noK at h
   omega
  ·rintro ⟨⟨h1, _⟩, _⟩
   exact absurd g0 h1
 ·constructor
  ·intro h
   rw [g1] at h
   unfold bothK at h
   split at h
   ·have h1 : a.2.2.1 + el fr t' = el fr q ∧ 1 + (j : Int) = (k : Int) := by omega
    exact ⟨⟨g0, h1.1⟩, j, by omega, hL⟩
   ·unfold noK at h; omega
  ·rintro ⟨⟨_, h2⟩, i, hi, hLi⟩
   have : j = i := hL.one hLi
   subst this
   rw [g1, hy]
   unfold bothK
   rw [if_pos (by unfold kA kB; omega)]
   omega
def S (f : Nat → Nat) : Nat → Nat
 | 0 => 0
 | n + 1 => S f n + f n
inductive Stc (a : Mc) : List Int → List Int → Nat → Prop
 | nil : Stc a [] [] 0
 | snoc {x y x' y' : List Int} {c d : Nat} (h : Stc a x y c) (k : Costs a x' y' d) : Stc a (x ++ x') (y ++ y') (c + d)
def wrdE (l : List Int) : Int := if 12 < l.length then 1 else if l.all (fun b => inB b 1 1000) = true then 0 else 2
theorem wrd_long {l : List Int} (h : 12 < l.length) : wrdE l = 1 := by unfold wrdE; rw [if_pos h]
theorem wrd_ok {l : List Int} (h : ¬ 12 < l.length) (ha : ∀ i, i < l.length → inB (el l i) 1 1000 = true) : wrdE l = 0 := by
 unfold wrdE
 rw [if_neg h, if_pos]
 rw [List.all_eq_true]
 intro b hb
 obtain ⟨j, hj, rfl⟩ := mem_el hb
 exact ha j hj
theorem wrd_parts {l : List Int} (h : wrdE l = 0) : l.length ≤ 12 ∧ ∀ i, i < l.length → 1 ≤ el l i ∧ el l i ≤ 1000 := by
 unfold wrdE at h
 by_cases g : 12 < l.length
 ·rw [if_pos g] at h; cases h
 ·rw [if_neg g] at h
  by_cases k : l.all (fun b => inB b 1 1000) = true
  ·refine ⟨by omega, fun i hi => ?_⟩
   rw [List.all_eq_true] at k
   have := k (el l i) (el_mem hi)
   simpa [inB] using this
  ·rw [if_neg k] at h; cases h
def atW (l : List Int) (i : Nat) : Int := if i < l.length then el l i else 0
def croE (x y : List Int) : Int := if wrdE x ≠ 0 then wrdE x else wrdE y
end Go.Proofs.Ytfpibdaedfilaaa.Pl
namespace Go.Proofs.Ytfpibdaedfilaaa.Pl
def pkR (n many : Int) : Int := (if n < 0 then -(n + 1) else n) % many
theorem pkR_bd (n many : Int) (h : 0 < many) : 0 ≤ pkR n many ∧ pkR n many < many := by
 unfold pkR
 exact ⟨Int.emod_nonneg _ (by omega), Int.emod_lt_of_pos _ h⟩
def arM (n : Nat) (full : Bool) (e : Ar) : Ar :=
 (if (full && decide (pkR e.1 3 = 0) && decide (pkR e.2.1 3 = 0)) = true then 1 else pkR e.1 3, pkR e.2.1 3, pkR e.2.2.1 10, pkR e.2.2.2 n)
def stM (n : Nat) (full : Bool) (x : Int × Bool × List Ar) : St := (if x.2.1 = true then pkR x.1 10 else 1000000001, (x.2.2.take 4).map (arM n full))
def sizeM (r : Int × List (Int × Bool × List Ar)) (states : Nat) : Nat := min (max r.2.length 1) states
def statesM (r : Int × List (Int × Bool × List Ar)) (n : Nat) (full : Bool) : List St := (List.range n).map fun q => if r.2.length ≤ q then (0, []) else stM n full (el r.2 q)
def madeM (r : Int × List (Int × Bool × List Ar)) (states : Nat) (full : Bool) : Mc := (pkR r.1 (sizeM r states), statesM r (sizeM r states) full)
theorem statesM_length (r : Int × List (Int × Bool × List Ar)) (n : Nat) (full : Bool) : (statesM r n full).length = n := by simp [statesM]
theorem arM_right {n : Nat} (hn : 0 < n) (full : Bool) (e : Ar) : arcB n (arM n full e) = true := by
 have h1 := pkR_bd e.1 3 (by omega)
 have h2 := pkR_bd e.2.1 3 (by omega)
 have h3 := pkR_bd e.2.2.1 10 (by omega)
 have h4 := pkR_bd e.2.2.2 n (by omega)
 simp only [arcB, arM, inB, Bool.and_eq_true, decide_eq_true_eq]
 refine ⟨⟨⟨?_, by omega⟩, by omega⟩, by omega⟩
 split <;> omega
theorem stM_right {n : Nat} (hn : 0 < n) (full : Bool) (x : Int × Bool × List Ar) : stB n (stM n full x) = true := by
 have h1 := pkR_bd x.1 10 (by omega)
 unfold stB stM
 simp only [Bool.and_eq_true, List.all_eq_true, List.mem_map]
 refine ⟨?_, ?_⟩
 ·split
  ·simp only [finB, inB, Bool.or_eq_true, Bool.and_eq_true, decide_eq_true_eq]; omega
  ·rfl
 ·rintro a ⟨e, _, rfl⟩
  exact arM_right hn full e
theorem stM_few (n : Nat) (full : Bool) (x : Int × Bool × List Ar) : (stM n full x).2.length ≤ 4 := by simp [stM]; omega
theorem madeM_right (r : Int × List (Int × Bool × List Ar)) (states : Nat) (hs : 0 < states) (hs8 : states ≤ 8) (full : Bool) : faultM (madeM r states full) = 0 := by
 have hn : 0 < sizeM r states := by unfold sizeM; omega
 have hn8 : sizeM r states ≤ 8 := by unfold sizeM; omega
 unfold madeM
 generalize sizeM r states = n at *
 have hl := statesM_length r n full
 have hz := pkR_bd r.1 n (by omega)
 have hk : ∀ s ∈ statesM r n full, stB n s = true ∧ s.2.length ≤ 4 := fun s hs => by
  unfold statesM at hs
  simp only [List.mem_map] at hs
  obtain ⟨q, _, rfl⟩ := hs
  split
  ·exact ⟨by simp [stB, finB, inB], by simp⟩
  ·exact ⟨stM_right hn full _, stM_few n full _⟩
 have ha : arcN (statesM r n full) ≤ (statesM r n full).length * 4 := arcN_le (fun j hj => (hk _ (el_mem hj)).2)
 refine faultM_ok ?_ ?_
 ·simp only [sizeB, Bool.and_eq_true, decide_eq_true_eq]
  rw [hl] at ha ⊢
  omega
 ·simp only [rangeB, inB, Bool.and_eq_true, decide_eq_true_eq, List.all_eq_true]
  rw [hl]
  exact ⟨by omega, fun s hs => (hk s hs).1⟩
end Go.Proofs.Ytfpibdaedfilaaa.Pl
namespace Go.Proofs.Ytfpibdaedfilaaa.Pl
set_option linter.unusedVariables false
set_option linter.unusedSimpArgs false
def CstIs (P : Nat → Prop) (n : Int) : Prop := (n = 1000000001 ∧ ∀ c, ¬ P c) ∨ ∃ c : Nat, LeastP P c ∧ c ≤ 100000000 ∧ n = (c : Int)
theorem CstIs.eq {P Q : Nat → Prop} {a b : Int} (h : CstIs P a) (k : CstIs Q b) (e : ∀ c, P c ↔ Q c) : a = b := by
 have : P = Q := funext fun c => propext (e c)
 subst this
 rcases h with ⟨rfl, h⟩ | ⟨c, hc, _, rfl⟩ <;> rcases k with ⟨rfl, k⟩ | ⟨d, hd, _, rfl⟩
 ·rfl
 ·exact absurd hd.1 (h d)
 ·exact absurd hc.1 (k c)
 ·rw [hc.one hd]
theorem CstIs.le {P Q : Nat → Prop} {a b : Int} (h : CstIs P a) (k : CstIs Q b) (e : ∀ c, P c → Q c) : b ≤ a := by
 rcases h with ⟨rfl, h⟩ | ⟨c, hc, _, rfl⟩ <;> rcases k with ⟨rfl, k⟩ | ⟨d, hd, _, rfl⟩
 ·omega
 ·omega
 ·exact absurd (e c hc.1) (k c)
 ·have := hd.2 c (e c hc.1); omega
theorem cst_of {P : Nat → Prop} {n e : Int} (h : WghAns P n e) (hb : ∀ c, P c → ∃ d, d ≤ 100000000 ∧ P d) : e = 0 ∧ CstIs P n := by
 rcases h with ⟨h, rfl, rfl⟩ | ⟨c, hc, h⟩
 ·exact ⟨rfl, .inl ⟨rfl, h⟩⟩
 ·obtain ⟨d, hd, hp⟩ := hb c hc.1
  have := hc.2 d hp
  rcases h with ⟨h1, rfl, rfl⟩ | ⟨h1, rfl, rfl⟩
  ·exact ⟨rfl, .inr ⟨c, hc, by omega, rfl⟩⟩
  ·omega
def CheapL (l : List St) : Prop := ∀ s ∈ l, (s.1 ≠ 1000000001 → s.1 ≤ 8000) ∧ ∀ a ∈ s.2, a.2.2.1 ≤ 8000
theorem right_ToIn {m : Mc} (h : faultM m = 0) : ToIn m.2 := fun q hq a ha => by
 have h1 := (right_parts h).2 _ (el_mem hq)
 simp only [stB, Bool.and_eq_true, List.all_eq_true] at h1
 have h2 := h1.2 _ ha
 simp only [arcB, inB, Bool.and_eq_true, decide_eq_true_eq] at h2
 exact ⟨a.2.2.2.toNat, by omega, by omega⟩
theorem edge_small {l : List St} {x y : List Int} {fr : Bool} (hto : ToIn l) (hc : CheapL l) (hx : x.length ≤ 12) (hy : y.length ≤ 12) (hn : l.length ≤ 60) :
  l.length * (x.length + 1) * (y.length + 1) ≤ 10140 ∧ ∀ k w j, Edge l x y fr k w j → j < l.length * (x.length + 1) * (y.length + 1) ∧ w ≤ 8000 := by
 have h1 : l.length * (x.length + 1) ≤ 60 * 13 := Nat.mul_le_mul hn (by omega)
 have h2 : l.length * (x.length + 1) * (y.length + 1) ≤ 60 * 13 * 13 := Nat.mul_le_mul h1 (by omega)
 refine ⟨by omega, ?_⟩
 rintro k w j ⟨q, i, j, a, t, i', j', hq, hi, hj, ha, ht, f1, f2, rfl, rfl, rfl⟩
 obtain ⟨t', e1, e2⟩ := hto q hq a ha
 have : t = t' := by omega
 subst this
 have h3 := (hc _ (el_mem hq)).2 a ha
 exact ⟨idx_lt e2 (fitN_le f1 hi) (fitF_le f2 hj), by omega⟩
theorem costs_bound {m : Mc} {x y : List Int} (hr : faultM m = 0) (hc : CheapL m.2) (hx : x.length ≤ 12) (hy : y.length ≤ 12) (c : Nat) (h : Costs m x y c) : ∃ d, d ≤ 100000000 ∧ Costs m x y d := by
 obtain ⟨hz, p, d, hw, hp, hf, rfl⟩ := h
 have h60 := (right_size (z := m.1) (l := m.2) hr).1
 obtain ⟨⟨hz1, hz2⟩, _⟩ := right_parts hr
 have hto := right_ToIn hr
 have hzl : m.1.toNat < m.2.length := by omega
 obtain ⟨hN, hE⟩ := edge_small (fr := false) hto hc hx hy h60
 obtain ⟨n, hn⟩ := (ends_way hzl hto).2 hw
 obtain ⟨n', d', hn', hd'⟩ := hn.short (idx_lt hzl (by omega) (by omega)) (fun k w j e => (hE k w j e).1)
 have h1 := hd'.cost (W := 8000) (fun k w j e => (hE k w j e).2)
 have h2 : n' * 8000 ≤ 10140 * 8000 := Nat.mul_le_mul_right _ (by omega)
 have h3 := (hc _ (el_mem hp)).1 hf
 exact ⟨d' + (el m.2 p).1.toNat, by omega, hz, p, d', (ends_way hzl hto).1 ⟨n', hd'⟩, hp, hf, rfl⟩
theorem wrd_12 {l : List Int} (hl : l.length ≤ 12) (h : ∀ n ∈ l, 1 ≤ n ∧ n ≤ 1000) : wrdE l = 0 := wrd_ok (by omega) fun i hi => by
 have := h _ (el_mem hi)
 simp [inB]
 omega
theorem made_cheap (r : Int × List (Int × Bool × List Ar)) (states : Nat) (full : Bool) : CheapL (madeM r states full).2 := fun s hs => by
 simp only [madeM, statesM, List.mem_map] at hs
 obtain ⟨q, _, rfl⟩ := hs
 split
 ·exact ⟨fun _ => by simp, fun a ha => absurd ha (by simp)⟩
 ·refine ⟨fun h => ?_, fun a ha => ?_⟩
  ·unfold stM at h ⊢
   simp only at h ⊢
   split
   ·have := pkR_bd (el r.2 q).1 10 (by omega); omega
   ·rename_i g; rw [if_neg g] at h; exact absurd rfl h
  ·simp only [stM, List.mem_map] at ha
   obtain ⟨e, _, rfl⟩ := ha
   unfold arM
   have := pkR_bd e.2.2.1 10 (by omega)
   simp only
   omega
theorem arcE_cheap {m : Mc} (hc : CheapL m.2) {k w j : Nat} (e : ArcE m.2 k w j) : w ≤ 8000 := by
 have hk := arcE_in e
 obtain ⟨a, ha, _, rfl⟩ := e
 have := (hc _ (el_mem hk)).2 a ha
 omega
theorem run_cheap {m : Mc} (hr : faultM m = 0) (hc : CheapL m.2) {s n q c : Nat} (hs : s < m.2.length) (h : Run (ArcE m.2) s n q c) : ∃ n' d, d ≤ 480000 ∧ d ≤ c ∧ Run (ArcE m.2) s n' q d := by
 have h60 := (right_size (z := m.1) (l := m.2) hr).1
 obtain ⟨n', d, hn, hd, h'⟩ := h.cheap hs (fun k w j e => (arcE_small hr e).1)
 have h1 := h'.cost (W := 8000) (fun k w j e => arcE_cheap hc e)
 have h2 : n' * 8000 ≤ 60 * 8000 := Nat.mul_le_mul_right _ (by omega)
 exact ⟨n', d, by omega, hd, h'⟩
theorem end_bound {m : Mc} (hr : faultM m = 0) (hc : CheapL m.2) {q c : Nat} (hq : q < m.2.length) (h : EndC m.2 q c) : ∃ d, d ≤ 100000000 ∧ EndC m.2 q d := by
 obtain ⟨n, p, d, h, hp, hf, rfl⟩ := h
 obtain ⟨n', d', hd, _, h'⟩ := run_cheap hr hc hq h
 have := (hc _ (el_mem hp)).1 hf
 exact ⟨d' + (el m.2 p).1.toNat, by omega, n', p, d', h', hp, hf, rfl⟩
theorem dst_cst {m : Mc} {P : Nat → Nat → Prop} {vs : List Int} {ec : Int} (hr : faultM m = 0) (hb : ∀ q, q < m.2.length → ∀ c, P q c → ∃ d, d ≤ 100000000 ∧ P q d) (h : DstAns m P vs ec) : ec = 0 ∧ vs.length = m.2.length ∧ ∀ q, q < m.2.length → CstIs (P q) (el vs q) := by
 rcases h with ⟨h, _⟩ | ⟨_, ⟨h1, h2, h3⟩ | ⟨_, _, q, hq, h4⟩⟩
 ·exact absurd hr h
 ·exact ⟨h1, h2, fun q hq => (cst_of (h3 q hq) (hb q hq)).2⟩
 ·exact absurd (cst_of h4 (hb q hq)).1 (by decide)
theorem end_cst {m : Mc} {vs : List Int} {ec : Int} (hr : faultM m = 0) (hc : CheapL m.2) (h : DstAns m (EndC m.2) vs ec) : ec = 0 ∧ vs.length = m.2.length ∧ ∀ q, q < m.2.length → CstIs (EndC m.2 q) (el vs q) := dst_cst hr (fun q hq c => end_bound hr hc hq) h
theorem lpa_cst {m : Mc} {x ec : Int} (hr : faultM m = 0) (hc : CheapL m.2) (hz : 0 ≤ m.1) (h : LpaAns m x ec) : ec = 0 ∧ CstIs (EndC m.2 m.1.toNat) x := by
 obtain ⟨vs, f, h1, h2⟩ := h
 obtain ⟨rfl, h3, h4⟩ := end_cst hr hc h1
 rcases h2 with ⟨h2, _⟩ | ⟨_, h5, h6⟩
 ·exact absurd rfl h2
 ·rw [if_neg (by omega)] at h6
  rw [h6]
  exact ⟨h5, h4 _ (by have := (right_parts hr).1; omega)⟩
theorem wayA_run {l : List St} {q p c : Nat} {u v : List Int} (h : Way l q u v p c) : ∃ n, Run (ArcE l) q n p c := by
  induction h with
  | nil => exact ⟨0, .nil⟩
  | snoc h ha ht ih =>
    obtain ⟨n, hn⟩ := ih
    exact ⟨n + 1, hn.step ⟨_, ha, ht, rfl⟩⟩
theorem costs_end {m : Mc} {x y : List Int} {c : Nat} (h : Costs m x y c) : EndC m.2 m.1.toNat c := by
 obtain ⟨_, p, d, hw, hp, hf, e⟩ := h
 obtain ⟨n, hn⟩ := wayA_run hw
 exact ⟨n, p, d, hn, hp, hf, e⟩
theorem putL_lab {b : Int} (h : 0 ≤ b) : putL [] b = lab b := by
 unfold putL lab
 by_cases h0 : b = 0
 ·simp [h0]
 ·rw [if_pos (by omega), if_neg h0]; rfl
def LabL (l : List St) : Prop := ∀ q, q < l.length → ∀ a ∈ (el l q).2, 0 ≤ a.1 ∧ a.1 ≤ 1000 ∧ 0 ≤ a.2.1 ∧ a.2.1 ≤ 1000
theorem LabL.of {m : Mc} (hr : faultM m = 0) : LabL m.2 := fun q hq a ha => by
 have h1 := (right_parts hr).2 _ (el_mem hq)
 simp only [stB, Bool.and_eq_true, List.all_eq_true] at h1
 have h2 := h1.2 _ ha
 simp only [arcB, inB, Bool.and_eq_true, decide_eq_true_eq] at h2
 omega
theorem el_out {l : List St} {q : Nat} (h : ¬ q < l.length) : (el l q).2 = [] := by
 rw [show el l q = default by simp [el, List.getElem?_eq_none (Nat.le_of_not_lt h)]]
 rfl
theorem flw_way {l : List St} (hR : RgtL l) (hlb : LabL l) : ∀ {ks : List Int} {q : Nat} {r : List Int × List Int × Int}, q < l.length → flwL l ks (q : Int) = some r → ∃ p d, Run (ArcE l) q ks.length p d ∧ Way l q r.1 r.2.1 p d ∧ p < l.length ∧ (el l p).1 ≠ 1000000001 ∧ r.2.2 = (d : Int) + (el l p).1
  | [], q, r, hq, h => by
    unfold flwL at h
    rw [Int.toNat_natCast] at h
    by_cases hf : (el l q).1 = 1000000001
    · rw [if_pos (.inr hf)] at h; cases h
    · rw [if_neg (by omega), Option.some.injEq] at h
      subst h
      exact ⟨q, 0, .nil, .nil, hq, hf, by simp⟩
  | k :: ks, q, r, hq, h => by
    unfold flwL at h
    rw [Int.toNat_natCast] at h
    by_cases hk : (q : Int) < 0 ∨ k < 0 ∨ ((el l q).2.length : Int) ≤ k
    · rw [if_pos hk] at h; cases h
    · rw [if_neg hk] at h
      obtain ⟨s, h1, rfl⟩ := Option.map_eq_some_iff.1 h
      have hi : k.toNat < (el l q).2.length := by omega
      have ha := el_mem hi
      obtain ⟨w0, w1, t, e, ht⟩ := hR.arc q hq _ ha
      have hb := hlb q hq _ ha
      rw [e] at h1
      obtain ⟨p, d, g1, g2, g3, g4, g5⟩ := flw_way hR hlb ht h1
      refine ⟨p, (el (el l q).2 k.toNat).2.2.1.toNat + d, Run.first ⟨_, ha, e, rfl⟩ g1, ?_, g3, g4, ?_⟩
      · simp only
        rw [putL_lab hb.1, putL_lab hb.2.2.1]
        exact Way.cons ha e g2
      · simp only [g5]
        push_cast
        omega
theorem way_labs {l : List St} (hlb : LabL l) {q p c : Nat} {u v : List Int} (h : Way l q u v p c) : (∀ b ∈ u, 1 ≤ b ∧ b ≤ 1000) ∧ ∀ b ∈ v, 1 ≤ b ∧ b ≤ 1000 := by
  induction h with
  | nil => simp
  | snoc h ha ht ih =>
    rename_i u v p c a t
    have hp : p < l.length := by
      rcases Nat.lt_or_ge p l.length with g | g
      · exact g
      · rw [el_out (Nat.not_lt.2 g)] at ha; cases ha
    have hb := hlb p hp a ha
    have key : ∀ n : Int, 0 ≤ n → n ≤ 1000 → ∀ b ∈ lab n, 1 ≤ b ∧ b ≤ 1000 := fun n h0 h1 b hb => by
      unfold lab at hb
      by_cases e : n = 0
      · rw [if_pos e] at hb; cases hb
      · rw [if_neg e, List.mem_singleton] at hb; omega
    refine ⟨fun b hm => ?_, fun b hm => ?_⟩
    · rcases List.mem_append.1 hm with g | g
      · exact ih.1 b g
      · exact key _ hb.1 hb.2.1 b g
    · rcases List.mem_append.1 hm with g | g
      · exact ih.2 b g
      · exact key _ hb.2.2.1 hb.2.2.2 b g
theorem bst_flw {l : List St} {fr : List Int} (hR : RgtL l) {k q : Nat} {L : List Nat} (h : BstW l fr k q L) : q < l.length → LenA l fr q k → ∃ x y, flwL l (L.map fun i : Nat => (i : Int)) (q : Int) = some (x, y, el fr q) := by
  induction h with
  | nil =>
    intro hq hl
    have h1 := hl.1
    simp only [TgN] at h1
    refine ⟨[], [], ?_⟩
    unfold flwL
    rw [List.map_nil]
    simp only [Int.toNat_natCast]
    rw [if_neg (by rw [h1.2]; omega), h1.2]
  | cons hi ha hk hf h ih =>
    intro hq hl
    rename_i k q i L
    obtain ⟨w0, w1, t, e, ht⟩ := hR.arc q hq _ (el_mem hi)
    rw [e, Int.toNat_natCast] at ih hk
    obtain ⟨x, y, hx⟩ := ih ht hk
    unfold TgA at ha
    rw [e, Int.toNat_natCast] at ha
    refine ⟨putL [] (el (el l q).2 i).1 ++ x, putL [] (el (el l q).2 i).2.1 ++ y, ?_⟩
    rw [List.map_cons]
    unfold flwL
    simp only [Int.toNat_natCast]
    rw [if_neg (by omega), e, hx]
    simp only [Option.map_some, ha.2]
theorem flw_bound {l : List St} (hR : RgtL l) (hc : CheapL l) : ∀ {ks : List Int} {q : Nat} {r : List Int × List Int × Int}, q < l.length → flwL l ks (q : Int) = some r → 0 ≤ r.2.2 ∧ r.2.2 ≤ 8000 * ks.length + 8000
  | [], q, r, hq, h => by
    unfold flwL at h
    rw [Int.toNat_natCast] at h
    by_cases hf : (el l q).1 = 1000000001
    · rw [if_pos (.inr hf)] at h; cases h
    · rw [if_neg (by omega), Option.some.injEq] at h
      subst h
      have h1 := (hc _ (el_mem hq)).1 hf
      have h2 := (hR.fin q hq).1
      simp only [List.length_nil]
      omega
  | k :: ks, q, r, hq, h => by
    unfold flwL at h
    rw [Int.toNat_natCast] at h
    by_cases hk : (q : Int) < 0 ∨ k < 0 ∨ ((el l q).2.length : Int) ≤ k
    · rw [if_pos hk] at h; cases h
    · rw [if_neg hk] at h
      obtain ⟨s, h1, rfl⟩ := Option.map_eq_some_iff.1 h
      have hi : k.toNat < (el l q).2.length := by omega
      have ha := el_mem hi
      obtain ⟨w0, w1, t, e, ht⟩ := hR.arc q hq _ ha
      have hb := (hc _ (el_mem hq)).2 _ ha
      rw [e] at h1
      have := flw_bound hR hc ht h1
      simp only [List.length_cons]
      omega
theorem best_pays {m : Mc} (hr : faultM m = 0) (hc : CheapL m.2) (hz : 0 ≤ m.1) {wt : Int} {L : List Nat} {e : Int} (h : BestAns m wt L e) {w : Int} (hw : CstIs (EndC m.2 m.1.toNat) w) :
  (w = 1000000001 ∧ e = 12 ∧ L = [] ∧ wt = 0) ∨ (w ≠ 1000000001 ∧ 0 ≤ w ∧ w ≤ 100000000 ∧ e = 0 ∧ wt = w ∧ L.length < m.2.length ∧ ∃ x y, flwL m.2 (L.map fun i : Nat => (i : Int)) m.1 = some (x, y, w) ∧ (x.length ≤ 12 → y.length ≤ 12 → wrdE x = 0 ∧ wrdE y = 0 ∧ ∀ n, CstIs (Costs m x y) n → n = w)) := by
 have hR := RgtL.of hr
 have hs : m.1.toNat < m.2.length := by have := (right_parts hr).1; omega
 obtain ⟨vs, ec, hd, h⟩ := h
 have hE := end_cst hr hc hd
 have hvw := (hE.2.2 _ hs).eq hw fun c => Iff.rfl
 rcases h with ⟨h0, _⟩ | ⟨_, h0, rfl, rfl, rfl⟩ | ⟨h1, _, h0, rfl, rfl, k, hL, hB⟩
 ·exact absurd hE.1 h0
 ·left
  rcases h0 with h0 | h0
  ·omega
  ·exact ⟨by omega, rfl, rfl, rfl⟩
 ·right
  subst h1
  have hF := frt_of hr hd
  obtain ⟨j, hj, hLj⟩ := len_exists hF hR.to (fun q hq a ha => (hR.arc q hq a ha).1) (fun q hq => (hR.fin q hq).1) hs h0
  obtain rfl := hL.one hLj
  obtain ⟨x, y, hx⟩ := bst_flw hR hB hs hL
  rw [Int.toNat_of_nonneg hz, hvw] at hx
  have hwb : 0 ≤ w ∧ w ≤ 100000000 := by
   rcases hw with ⟨hw, _⟩ | ⟨c, _, hc, rfl⟩
   ·exact absurd (hvw.trans hw) h0
   ·omega
  refine ⟨by omega, hwb.1, hwb.2, rfl, hvw, by rw [hB.len]; exact hj, x, y, hx, fun hx1 hy1 => ?_⟩
  have hx' := hx
  rw [← Int.toNat_of_nonneg hz] at hx'
  obtain ⟨p, d, g1, g2, g3, g4, g5⟩ := flw_way hR (LabL.of hr) hs hx'
  simp only at g2 g5
  have hl := way_labs (LabL.of hr) g2
  refine ⟨wrd_12 hx1 hl.1, wrd_12 hy1 hl.2, fun n hn => ?_⟩
  have hf0 := (hR.fin p g3).1
  have hC : Costs m x y (d + (el m.2 p).1.toNat) := ⟨hz, p, d, g2, g3, g4, rfl⟩
  have h1 := hn.le hw (fun c h => costs_end h)
  rcases hn with ⟨_, hn⟩ | ⟨c, hc, _, rfl⟩
  ·exact absurd hC (hn _)
  ·have := hc.2 _ hC
   omega
theorem best_less {m : Mc} (hr : faultM m = 0) (hc : CheapL m.2) (hz : 0 ≤ m.1) {wt : Int} {L : List Nat} {e : Int} (h : BestAns m wt L e) {ks : List Int} :
  (e = 0 ∨ e = 12) ∧ ∀ r, flwL m.2 ks m.1 = some r → e = 0 ∧ wt ≤ r.2.2 ∧ (r.2.2 ≤ wt → L.length ≤ ks.length) := by
 have hR := RgtL.of hr
 have hs : m.1.toNat < m.2.length := by have := (right_parts hr).1; omega
 obtain ⟨vs, ec, hd, h⟩ := h
 have hE := end_cst hr hc hd
 have hF : FrT m.2 vs := by have := hE.1; subst this; exact frt_of hr hd
 have hrun : ∀ r, flwL m.2 ks m.1 = some r → ∃ p d, Run (ArcE m.2) m.1.toNat ks.length p d ∧ p < m.2.length ∧ (el m.2 p).1 ≠ 1000000001 ∧ r.2.2 = (d : Int) + (el m.2 p).1 := fun r h => by
  rw [← Int.toNat_of_nonneg hz] at h
  obtain ⟨p, d, g1, g2, g3, g4, g5⟩ := flw_way hR (LabL.of hr) hs h
  exact ⟨p, d, g1, g3, g4, g5⟩
 rcases h with ⟨h0, _⟩ | ⟨_, h0, rfl, rfl, rfl⟩ | ⟨h1, _, h0, rfl, rfl, k, hL, hB⟩
 ·exact absurd hE.1 h0
 ·refine ⟨.inr rfl, fun r h => ?_⟩
  obtain ⟨p, d, g1, g3, g4, g5⟩ := hrun r h
  rcases h0 with h0 | h0
  ·omega
  ·exact absurd h0 (hF.le hs ⟨_, p, d, g1, g3, g4, rfl⟩).1
 ·refine ⟨.inl rfl, fun r h => ?_⟩
  obtain ⟨p, d, g1, g3, g4, g5⟩ := hrun r h
  have hf0 := (hR.fin p g3).1
  have h2 := (hF.le hs ⟨_, p, d, g1, g3, g4, rfl⟩).2
  refine ⟨rfl, by omega, fun hle => ?_⟩
  rw [hB.len]
  exact hL.2 _ (path_tg hF hR.to (fun q hq a ha => (hR.arc q hq a ha).1) (fun q hq => (hR.fin q hq).1) hs g1 g3 g4 (by omega))
end Go.Proofs.Ytfpibdaedfilaaa.Pl
namespace Go.Proofs.Ytfpibdaedfilaaa.Wt
open Go.ChangeShapes Go.WideShapes Go.ChangeAt Go.RowKit
open Go.Proofs.Ytfpibdaedfilaaa.Pl
set_option linter.unusedVariables false
set_option linter.unusedSimpArgs false
theorem both_any (a b : Int) (w : World) (ha : 0 ≤ a ∧ a ≤ 1000000001) (hb : 0 ≤ b ∧ b ≤ 1000000001) :
  Calls Try.prog 35 #[.int .i64 a, .int .i64 b] w fun e w' => e = .returned (.int .i64 (if a = 1000000001 ∨ b = 1000000001 then 1000000001 else a + b)) ∧ w = w' := by
 by_cases h1 : a = 1000000001
 ·rw [if_pos (.inl h1)]
  have h1' : (a == 1000000001) = true := by simpa using h1
  go_enter Try.func35, Try.ntmps35
  go_wp2
  go_ret
  exact ⟨rfl, rfl⟩
 ·have h1' : (a == 1000000001) = false := by simpa using h1
  by_cases h2 : b = 1000000001
  ·rw [if_pos (.inr h2)]
   have h2' : (b == 1000000001) = true := by simpa using h2
   go_enter Try.func35, Try.ntmps35
   go_wp2
   go_ret
   exact ⟨rfl, rfl⟩
  ·rw [if_neg (fun h => h.elim h1 h2)]
   have h2' : (b == 1000000001) = false := by simpa using h2
   have hw : IntKind.i64.wrap (a + b) = a + b := wrapI (by omega) (by omega)
   go_enter Try.func35, Try.ntmps35
   go_wp2
   go_ret
   exact ⟨rfl, rfl⟩
end Go.Proofs.Ytfpibdaedfilaaa.Wt
namespace Go.Proofs.Ytfpibdaedfilaaa.Wt
open Go.ChangeShapes Go.WideShapes Go.ChangeAt Go.RowKit
open Go.Proofs.Ytfpibdaedfilaaa.Pl
set_option linter.unusedVariables false
theorem picked_R (n many : Int) (w : World) (hn : (Lit.int .i64 n).wf = true) (hm : 0 < many) (hm2 : many ≤ 9223372036854775807) (r : Int) (hr : pkR n many = r) :
  Calls Try.prog 19 #[.int .i64 n, .int .i64 many] w fun e w' => e = .returned (.int .i64 r) ∧ w = w' := by
 subst hr
 obtain ⟨b1, b2⟩ := bounds_i64 hn
 clear hn
 by_cases h : n < 0
 ·have HP : Hid (pkR n many = (-(n + 1)) % many) := by show _ = _; simp [pkR, h]
  go_enter Try.func19, Try.ntmps19
  go_wp2
  go_ret
  exact ⟨ret_intK (by rw [HP.out, ← Int.neg_tmod, Int.tmod_eq_emod_of_nonneg (by omega)]), rfl⟩
 ·have HP : Hid (pkR n many = n % many) := by show _ = _; simp [pkR, h]
  go_enter Try.func19, Try.ntmps19
  go_wp2
  go_ret
  exact ⟨ret_intK (by rw [HP.out]), rfl⟩
end Go.Proofs.Ytfpibdaedfilaaa.Wt
namespace Go.Proofs.Ytfpibdaedfilaaa.Wt
open Go.ChangeShapes Go.WideShapes Go.ChangeAt Go.RowKit
set_option linter.unusedVariables false
theorem low {w w' : World} {a : Addr} {v : Value} (h : w.cell? a = some v) (hb : Below w.heap.size w w') : w'.cell? a = some v := (hb.cell (World.block_lt_of_cell? _ _ h)).trans h
theorem lowA {w w' : World} {o : Obj} {a : Addr} {v : Value} (h : w.cell? a = some v) (hb : Below (w.alloc o).heap.size (w.alloc o) w') : w'.cell? a = some v := low (low h ((Below.refl _ _).alloc (Nat.le_refl _) o)) hb
theorem lowN {w w' : World} {c : Value} {t : TypeId} (hb : Below (w.alloc (.cells #[c] t)).heap.size (w.alloc (.cells #[c] t)) w') : w'.cell? ⟨w.heap.size, 0, none⟩ = some c := low ((Blk.made w #[c] t).cell 0 rfl) hb
end Go.Proofs.Ytfpibdaedfilaaa.Wt
