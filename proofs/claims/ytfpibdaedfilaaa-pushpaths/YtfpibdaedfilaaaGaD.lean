/- The n cheapest ways, with their keys; what they tell of a machine's paths (no program in sight). -/
import Derived.Test.YtfpibdaedfilaaaGaB
import Derived.Test.YtfpibdaedfilaaaGaC
import Derived.Test.YtfpibdaedfilaaaGag
namespace Go.Proofs.Ytfpibdaedfilaaa.Pl
set_option linter.unusedVariables false
set_option linter.unusedSimpArgs false
def zR (r : List Ar) : List Ar := r.map fun s => (s.1, 0, 0, 0)
def zS (S : List (List Ar)) : List (List Ar) := S.map zR
def zF (F : List (List Int)) : List (List Int) := F.map fun r => r.map fun _ => 0
theorem el_mapZ {α β : Type} [Inhabited α] [Inhabited β] {f : α → β} (hf : f default = default) (L : List α) (j : Nat) : el (L.map f) j = f (el L j) := by
 by_cases h : j < L.length
 ·rw [el_get (by simpa using h), el_get h, List.getElem_map]
 ·simp [el, Nat.le_of_not_lt h, hf]
theorem el_zS (S : List (List Ar)) (q : Nat) : el (zS S) q = zR (el S q) := el_mapZ (f := zR) rfl S q
theorem el_zF (F : List (List Int)) (q : Nat) : el (zF F) q = (el F q).map fun _ => 0 := el_mapZ (f := fun r : List Int => r.map fun _ => 0) rfl F q
theorem zS_len (S : List (List Ar)) : (zS S).length = S.length := by simp [zS]
theorem zF_set (F : List (List Int)) (q : Nat) (v : List Int) : zF (F.set q v) = (zF F).set q (v.map fun _ => 0) := by
 unfold zF
 rw [List.map_set]
structure CkI (S : List (List Ar)) (n start : Nat) (F : List (List Int)) (H : List Ar) : Prop where
 key : CwI capK S n start F H
 all : CwI 1 (zS S) n start (zF F) (zR H)
 okH : ∀ x ∈ H, KeyOk x.2.2.2 ∧ (x.2.2.2 = noK ∨ kB x.2.2.2 ≤ totF F)
 okF : ∀ p, p < S.length → ∀ y ∈ el F p, KeyOk y
section
variable {S : List (List Ar)} {n start : Nat} {F : List (List Int)} {H : List Ar}
theorem CkI.begin (hs : start < S.length) : CkI S n start (List.replicate S.length []) [((start : Int), 0, 0, 0)] := by
 refine ⟨CwI.begin hs, ?_, fun x hx => ?_, fun p _ y hy => absurd hy (by rw [el_nils]; simp)⟩
 ·have h := CwI.begin (CAP := 1) (st := zS S) (n := n) (start := start) (by rw [zS_len]; exact hs)
  rw [zS_len] at h
  have e : zF (List.replicate S.length []) = List.replicate S.length [] := by simp [zF]
  rw [e]
  exact h
 ·rw [List.mem_singleton] at hx
  subst hx
  refine ⟨.inr (show 0 ≤ kA 0 ∧ kA 0 ≤ 1000000000 ∧ 0 ≤ kB 0 ∧ kB 0 ≤ 1000000000 by decide), .inr ?_⟩
  show kB 0 ≤ _
  rw [show kB 0 = 0 by decide]
  omega
theorem CkI.perm {H' : List Ar} (h : CkI S n start F H) (e : H'.Perm H) : CkI S n start F H' :=
 ⟨h.key.perm e, h.all.perm (e.map _), fun x hx => h.okH x (e.mem_iff.1 hx), h.okF⟩
theorem CkI.find {x : Ar} {q : Nat} (hS : StsOk S) (hsm : S.length * n ≤ 1000000) (h : CkI S n start F (x :: H)) (hx : x.1 = (q : Int)) (hl : (el F q).length < n) (hmin : ∀ y ∈ H, x.2.2.2 ≤ y.2.2.2) :
  CkI S n start (F.set q (el F q ++ [x.2.2.2])) (H ++ (el S q).map fun s => (s.1, 0, 0, bothK x.2.2.2 s.2.2.2)) := by
 obtain ⟨t, e, hq⟩ := h.key.hto x (List.mem_cons_self ..)
 have eq : t = q := by omega
 subst eq
 have hqF : t < F.length := by rw [h.key.len]; exact hq
 have htot : totF F ≤ 1000000 := by
  have := totF_le (n := n) (F := F) fun p hp => h.key.few p (by rw [← h.key.len]; exact hp)
  rw [h.key.len] at this
  omega
 have hxo := h.okH x (List.mem_cons_self ..)
 have hxb : x.2.2.2 = noK ∨ kB x.2.2.2 ≤ 1000000 := by
  rcases hxo.2 with g | g
  ·exact .inl g
  ·exact .inr (by omega)
 refine ⟨h.key.find e hl hmin hS.hw (fun s => bothK x.2.2.2 s) (fun s hs => ⟨bothK_ge hxo.1 (hS t hq s hs).1, fun c hc => bothK_le hxo.1 hxb (hS t hq s hs).1 hc⟩), ?_, fun y hy => ?_, fun p hp y hy => ?_⟩
 ·have h0 := CwI.find (x := (x.1, 0, 0, 0)) (q := t) (H := zR H) h.all e (by rw [el_zF, List.length_map]; exact hl) (fun y hy => by
   obtain ⟨z, _, rfl⟩ := List.mem_map.1 hy
   exact Int.le_refl _) (fun j hj s hs => by
   rw [el_zS] at hs
   obtain ⟨r, hr, rfl⟩ := List.mem_map.1 hs
   rw [zS_len] at hj ⊢
   exact ⟨Int.le_refl _, (hS j hj r hr).2⟩) (fun _ => 0) (fun s hs => by
   rw [el_zS] at hs
   obtain ⟨r, hr, rfl⟩ := List.mem_map.1 hs
   exact ⟨Int.le_refl _, fun c _ => by simp⟩)
  rw [el_zF, el_zS] at h0
  have e1 : zF (F.set t (el F t ++ [x.2.2.2])) = (zF F).set t ((el F t).map (fun _ => 0) ++ [0]) := by rw [zF_set, List.map_append]; rfl
  have e2 : zR (H ++ (el S t).map fun s => (s.1, 0, 0, bothK x.2.2.2 s.2.2.2)) = zR H ++ (zR (el S t)).map fun s => (s.1, 0, 0, 0) := by
   unfold zR
   rw [List.map_append, List.map_map, List.map_map]
   rfl
  rw [e1, e2]
  exact h0
 ·rw [totF_set hqF]
  rcases List.mem_append.1 hy with hy | hy
  ·obtain ⟨h1, h2⟩ := h.okH y (List.mem_cons_of_mem _ hy)
   refine ⟨h1, ?_⟩
   rcases h2 with g | g
   ·exact .inl g
   ·exact .inr (by omega)
  ·obtain ⟨s, hs, rfl⟩ := List.mem_map.1 hy
   have hs1 := hS t hq s hs
   obtain ⟨g1, g2⟩ := bothK_ok hxo.1 hs1.key
   refine ⟨g1, ?_⟩
   rcases g2 with g | g
   ·exact .inl g
   ·rcases hxo.2 with k | k
    ·left
     show bothK x.2.2.2 s.2.2.2 = noK
     rw [k]
     unfold bothK
     rw [if_neg]
     have := hs1.1
     rw [noK_parts.1]
     omega
    ·right
     show kB (bothK x.2.2.2 s.2.2.2) ≤ _
     have := hs1.1
     omega
 ·rw [el_setF hqF] at hy
  split at hy
  ·rcases List.mem_append.1 hy with hy | hy
   ·exact h.okF t hq y hy
   ·rw [List.mem_singleton.1 hy]; exact hxo.1
  ·exact h.okF p hp y hy
theorem CkI.drop {x : Ar} {q : Nat} (h : CkI S n start F (x :: H)) (hx : x.1 = (q : Int)) (hl : (el F q).length = n) : CkI S n start F H :=
 ⟨h.key.drop hx hl, h.all.drop (x := (x.1, 0, 0, 0)) hx (by rw [el_zF, List.length_map]; exact hl), fun y hy => h.okH y (List.mem_cons_of_mem _ hy), h.okF⟩
theorem wC_all {W : Int} (hW0 : 0 ≤ W) (hW : ∀ q, q < S.length → ∀ s ∈ el S q, s.2.2.2 ≤ W) : ∀ (k p : Nat) (c : Int), (k : Int) * W ≤ c → wC S start k p c = wC (zS S) start k p 0
  | 0, p, c, _ => rfl
  | k + 1, p, c, h => by
    rw [wC_succ, wC_succ]
    have h0 : 0 ≤ c := by
      have : 0 ≤ ((k + 1 : Nat) : Int) * W := Int.mul_nonneg (by omega) hW0
      omega
    congr 1
    · unfold atS
      by_cases g : p = start <;> simp [g, h0]
    · unfold sumS
      rw [zS_len]
      congr 1
      refine List.map_congr_left fun q hq => ?_
      rw [el_zS]
      unfold zR
      rw [List.map_map]
      congr 1
      refine List.map_congr_left fun s hs => ?_
      show (if s.1 = (p : Int) then wC S start k q (c - s.2.2.2) else 0) = if s.1 = (p : Int) then wC (zS S) start k q (0 - 0) else 0
      have h1 := hW q (List.mem_range.1 hq) s hs
      have h2 : (k : Int) * W ≤ c - s.2.2.2 := by
        rw [Int.natCast_add, Int.add_mul] at h
        omega
      rw [wC_all hW0 hW k q _ h2, Int.sub_zero]
theorem CkI.len (hS : StsOk S) (h : CkI S n start F []) {k p : Nat} (hk : S.length * n + 1 ≤ k) (hp : p < S.length) : (el F p).length = min n (wC (zS S) start k p 0) := by
 have h1 := h.all.done (fun j hj s hs => by
  rw [el_zS] at hs
  obtain ⟨r, hr, rfl⟩ := List.mem_map.1 hs
  rw [zS_len] at hj ⊢
  exact ⟨Int.le_refl _, (hS j hj r hr).2⟩) (k := k) (by rw [zS_len]; exact hk) p (by rw [zS_len]; exact hp) 0 (by decide)
 rw [← h1, el_zF]
 unfold cLe
 rw [List.countP_eq_length.2 fun x hx => by
  obtain ⟨_, _, rfl⟩ := List.mem_map.1 hx
  decide]
 simp
end
theorem sN_more (l : List St) : ∀ (k q : Nat) {c d : Nat}, c ≤ d → sN l k q c ≤ sN l k q d
  | 0, q, c, d, _ => Nat.le_refl _
  | k + 1, q, c, d, h => by
    rw [sN_front, sN_front]
    refine Nat.add_le_add ?_ (sumN_le fun a _ => ?_)
    · unfold fE
      split
      · rename_i g
        rw [if_pos ⟨g.1, by omega⟩]
        exact Nat.le_refl _
      · exact Nat.zero_le _
    · split
      · rename_i g
        rw [if_pos (by omega)]
        exact sN_more l k _ (by omega)
      · exact Nat.zero_le _
theorem rnd_exists {l : List St} (hR : RgtL l) (n : Nat) : ∀ k q, q < l.length → ∃ L, RndN l k q n L
  | 0, q, _ => ⟨[], RndN.zero l q n⟩
  | k + 1, q, hq => by
    obtain ⟨f0, f1⟩ := hR.fin q hq
    have key : ∀ i, i ≤ (el l q).2.length → ∃ L, InsN n (fun c => fE l q c + sA l k ((el l q).2.take i) c) L := by
      intro i
      induction i with
      | zero =>
        intro _
        by_cases h : (el l q).1 = 1000000001
        · exact ⟨_, InsN.nofin h k _⟩
        · exact ⟨_, InsN.fin f0 h k _⟩
      | succ i ih =>
        intro hi
        obtain ⟨L, hL⟩ := ih (by omega)
        obtain ⟨w0, w1, t, e, ht⟩ := hR.arc q hq _ (el_mem (show i < (el l q).2.length by omega))
        obtain ⟨T, hT⟩ := rnd_exists hR n k t ht
        have step : ∀ j, j ≤ T.length → ∃ L, InsN n (fun c => fE l q c + sA l k ((el l q).2.take i) c + cUp T (el (el l q).2 i).2.2.1 j c) L := by
          intro j
          induction j with
          | zero => intro _; exact ⟨L, hL.up0⟩
          | succ j ih2 =>
            intro hj
            obtain ⟨L2, hL2⟩ := ih2 (by omega)
            exact ⟨_, hL2.up (by omega) (by have := hT.pos _ (el_mem (show j < T.length by omega)); omega)⟩
        obtain ⟨L3, hL3⟩ := step _ (Nat.le_refl _)
        exact ⟨L3, InsN.arc (by omega) e w0 hT hL3⟩
    obtain ⟨L, hL⟩ := key _ (Nat.le_refl _)
    rw [List.take_length] at hL
    exact ⟨L, RndN.next hL⟩
theorem RgtL.to {l : List St} (hR : RgtL l) : ∀ q, q < l.length → ∀ a ∈ (el l q).2, ∃ t : Nat, a.2.2.2 = (t : Int) ∧ t < l.length := fun q hq a ha => (hR.arc q hq a ha).2.2
theorem cheap_exists {l : List St} (hR : RgtL l) (n : Nat) {q : Nat} (hq : q < l.length) : ∃ L, CheapN l q n L := by
 obtain ⟨L, hL⟩ := rnd_exists hR n (l.length * (n + 1)) q hq
 exact ⟨L, hL.done hR.to hq (Nat.le_refl _)⟩
theorem cLe_map_kA (L : List Int) (c : Int) : cLe (L.map kA) c = cLe L (c * 2147483648 + 2147483647) := by
 unfold cLe
 rw [List.countP_map]
 congr 1
 funext x
 simp only [Function.comp_def, decide_eq_decide]
 unfold kA
 omega
theorem cLe_all {L : List Int} {c : Int} (h : ∀ x ∈ L, x ≤ c) : cLe L c = L.length := List.countP_eq_length.2 fun x hx => by have := h x hx; simpa using this
theorem cLe_lt {L : List Int} {c : Int} (h : ∃ x ∈ L, c < x) : cLe L c < L.length := by
 obtain ⟨x, hx, hc⟩ := h
 rcases Nat.lt_or_ge (cLe L c) L.length with g | g
 ·exact g
 ·have h1 : cLe L c = L.length := Nat.le_antisymm (cLe_len L c) g
  have h2 := List.countP_eq_length.1 h1 x hx
  simp at h2
  omega
theorem costs_found {l : List St} (hR : RgtL l) {n start : Nat} (hs : start < l.length) (hl : l.length ≤ 64) (hn : n ≤ 20) {F : List (List Int)} (h : CkI (onL l) n start F []) :
  ∃ R, CheapN l start n R ∧ ((∀ x ∈ el F l.length, kA x ≤ 1000000000) → R = (el F l.length).map kA) ∧ ((∃ x ∈ el F l.length, 1000000000 < kA x) → ∃ x ∈ R, 1000000000 < x) := by
 obtain ⟨R, hC⟩ := cheap_exists hR n hs
 have hS := onL_ok hR
 have hX := XP.fro hR
 have hN : (onL l).length = l.length + 1 := onL_len l
 obtain ⟨K, hK⟩ : ∃ K, K = (l.length + 1) * n + l.length * (n + 1) + 2 := ⟨_, rfl⟩
 have hm1 : (l.length + 1) * n ≤ 65 * 20 := Nat.mul_le_mul (by omega) hn
 have hm2 : l.length * (n + 1) ≤ 64 * 21 := Nat.mul_le_mul hl (by omega)
 have hK1 : (onL l).length * n + 1 ≤ K + 1 := by rw [hN]; omega
 have hK2 : l.length * (n + 1) ≤ K := by omega
 have hst : ∀ c, min n (sN l K start c) = min n (sN l (l.length * (n + 1) + 1) start c) := fun c => by
  rw [sN_stable hR.to hs (Nat.le_refl _) hK2, ← sN_stable hR.to hs (Nat.le_refl _) (Nat.le_succ (l.length * (n + 1)))]
 -- at most so much
 have ha : ∀ c : Nat, c ≤ 1000000000 → cLe (el F l.length) ((c : Int) * 2147483648 + 2147483647) = min n (sN l (l.length * (n + 1) + 1) start c) := fun c hc => by
  rw [h.key.done hS.hw hK1 l.length (by rw [hN]; omega) _ (by unfold capK; omega), ← hst]
  congr 1
  exact hX.cnt hR K start c 2147483647 hs (by omega) (by decide)
 -- in all
 have hb : ∀ d : Nat, 5000000000000 ≤ d → (el F l.length).length = min n (sN l (l.length * (n + 1) + 1) start d) := fun d hd => by
  rw [h.len hS hK1 (by rw [hN]; omega), ← hst]
  congr 1
  rw [← wC_all (W := 2147483649000000000) (by decide) (fun q hq s hs => by
   have h1 := (hS q hq s hs).1
   unfold kA kB at h1
   omega) (K + 1) l.length ((d : Int) * 2147483648 + 2147483647) (by omega)]
  exact hX.cnt hR K start d 2147483647 hs (by omega) (by decide)
 refine ⟨R, hC, fun hA => ?_, fun hE => ?_⟩
 ·refine hC.one ⟨?_, fun x hx => ?_, fun c => ?_⟩
  ·have h1 := h.key.ris l.length (by rw [hN]; omega)
   unfold RisL at h1 ⊢
   rw [List.pairwise_map]
   exact h1.imp fun {a b} hab => by unfold kA; omega
  ·obtain ⟨y, hy, rfl⟩ := List.mem_map.1 hx
   rcases h.okF l.length (by rw [hN]; omega) y hy with g | g
   ·rw [g, noK_parts.1]; decide
   ·exact g.1
  ·rw [cLe_map_kA]
   rcases Nat.le_total c 1000000000 with g | g
   ·exact ha c g
   ·have e1 : cLe (el F l.length) ((c : Int) * 2147483648 + 2147483647) = (el F l.length).length := cLe_all fun x hx => by have := hA x hx; unfold kA at this; omega
    have e2 : cLe (el F l.length) (((1000000000 : Nat) : Int) * 2147483648 + 2147483647) = (el F l.length).length := cLe_all fun x hx => by have := hA x hx; unfold kA at this; omega
    rw [ha _ (Nat.le_refl _)] at e2
    rw [e1]
    have e3 := hb (max c 5000000000000) (by omega)
    have e4 := sN_more l (l.length * (n + 1) + 1) start (c := 1000000000) (d := c) g
    have e5 := sN_more l (l.length * (n + 1) + 1) start (c := c) (d := max c 5000000000000) (by omega)
    omega
 ·refine Classical.byContradiction fun hno => ?_
  have h1 : cLe R ((1000000000 : Nat) : Int) = R.length := cLe_all fun x hx => by
   rcases Int.lt_or_le 1000000000 x with g | g
   ·exact absurd ⟨x, hx, g⟩ hno
   ·exact g
  obtain ⟨a, hab⟩ := cLe_big (l := R)
  have h2 := hab (max a 5000000000000 : Nat) (by omega)
  rw [hC.cnt] at h1 h2
  rw [← hb _ (by omega)] at h2
  have h3 := ha 1000000000 (Nat.le_refl _)
  have h4 : cLe (el F l.length) (((1000000000 : Nat) : Int) * 2147483648 + 2147483647) < (el F l.length).length := cLe_lt (by
   obtain ⟨x, hx, hc⟩ := hE
   exact ⟨x, hx, by unfold kA at hc; omega⟩)
  omega
end Go.Proofs.Ytfpibdaedfilaaa.Pl
namespace Go.Proofs.Ytfpibdaedfilaaa.Bw
open Go.ChangeShapes Go.WideShapes Go.ChangeAt Go.RowKit
open Go.Proofs.Ytfpibdaedfilaaa.Pl Go.Proofs.Ytfpibdaedfilaaa.Wt
set_option linter.unusedVariables false
set_option linter.unusedSimpArgs false
def encT (k : Int) : List Value := [.int .i64 (kA k), .int .i64 (kB k)]
theorem encT_len (k : Int) : (encT k).length = 2 := rfl
theorem encT_one (k : Int) : ∀ u ∈ encT k, u.oneCell' = true := by
 intro u hu
 simp [encT] at hu
 rcases hu with rfl | rfl <;> rfl
def putF {α : Type} (t : Nat) (x : α) (f : Nat → List α) : Nat → List α := fun j => if j = t then f j ++ [x] else f j
structure RowT {α : Type} (k : Nat) (enc : α → List Value) (et rt : TypeId) (w : World) (base g n : Nat) (vs : List Value) (f : Nat → List α) : Prop where
 len : vs.length = n
 blk : Blk w g vs.toArray rt
 row : ∀ j, j < n → w.ownsRow base et k (el vs j) (f j).length ((f j).flatMap enc)
 apart : ∀ i j, i < n → j < n → i ≠ j → (el vs i).ownBlock = none ∨ (el vs i).ownBlock ≠ (el vs j).ownBlock
section
variable {α : Type} {k : Nat} {enc : α → List Value} {et rt : TypeId} {w w' : World} {base g n : Nat} {vs : List Value} {f : Nat → List α}
theorem RowT.later (h : RowT k enc et rt w base g n vs f) (hb : Below w.heap.size w w') : RowT k enc et rt w' base g n vs f :=
 ⟨h.len, h.blk.below hb h.blk.lt, fun j hj => ownBelow (h.row j hj) hb, h.apart⟩
theorem RowT.cell (h : RowT k enc et rt w base g n vs f) {j : Nat} (hj : j < n) : w.cell? ⟨g, j, none⟩ = some (el vs j) := by
 refine h.blk.cell _ ?_
 have := h.len
 rw [List.getElem?_toArray, el_get (by omega), List.getElem?_eq_getElem (by omega)]
theorem el_setVb {l : List Value} {q j : Nat} (hq : q < l.length) (v : Value) : el (l.set q v) j = if j = q then v else el l j := by
 by_cases h : j = q
 ·subst h; rw [if_pos rfl, el_get (by simpa using hq)]; simp
 ·rw [if_neg h]; simp [el, List.getElem?_set_ne (Ne.symm h)]
theorem RowT.put {t : Nat} {x : α} {v' : Value} (hte : et ≠ rt) (h : RowT k enc et rt w base g n vs f) (ht : t < n) (ho : w'.ownsRow base et k v' ((f t).length + 1) ((f t).flatMap enc ++ [x].flatMap enc)) (hg : w.grownBy w' (el vs t).ownBlock) (hn : Near w (el vs t).ownBlock v') :
  RowT k enc et rt (w'.setCell ⟨g, t, none⟩ v') base g n (vs.set t v') (putF t x f) := by
 have hl := h.len
 have hb' : Blk w' g vs.toArray rt := h.blk.grown hg (own_ne (h.row t ht) h.blk hte)
 have hother : ∀ j, j < n → j ≠ t → w'.ownsRow base et k (el vs j) (f j).length ((f j).flatMap enc) := fun j hj hjt => (h.row j hj).kept hg (h.apart j t hj ht hjt)
 refine ⟨by simpa using hl, ?_, fun j hj => ?_, fun i j hi hj hij => ?_⟩
 ·have h9 := hb'.set t v'
  have e : vs.toArray.setIfInBounds t v' = (vs.set t v').toArray := by simp
  rw [e] at h9
  exact h9
 ·rw [el_setVb (by omega)]
  unfold putF
  by_cases e : j = t
  ·subst e
   rw [if_pos rfl, if_pos rfl, List.flatMap_append, List.length_append]
   exact ho.kept (gSet w' g j v') (.inr (Ne.symm (own_ne ho hb' hte)))
  ·rw [if_neg e, if_neg e]
   exact (hother j hj e).kept (gSet w' g t v') (.inr (Ne.symm (own_ne (hother j hj e) hb' hte)))
 ·rw [el_setVb (by omega), el_setVb (by omega)]
  by_cases e1 : i = t
  ·have e2 : ¬ j = t := fun e2 => hij (e1.trans e2.symm)
   rw [if_pos e1, if_neg e2]
   rcases hn with hn | ⟨b, hn, hbn⟩
   ·rw [hn]; exact h.apart t j ht hj (by omega)
   ·right
    rw [hn]
    intro e9
    have := ((h.row j hj).lt b e9.symm).2
    omega
  ·rw [if_neg e1]
   by_cases e2 : j = t
   ·rw [if_pos e2]
    rcases hn with hn | ⟨b, hn, hbn⟩
    ·rw [hn]; exact h.apart i t hi ht e1
    ·right
     rw [hn]
     intro e9
     have := ((h.row i hi).lt b e9).2
     omega
   ·rw [if_neg e2]; exact h.apart i j hi hj hij
theorem RowT.turn {b : Nat} {r : Option Nat} (h : RowT k enc et rt w base g n vs f) (ht : Turn2 w w' b r) (hgb : g ≠ b) (hgr : some g ≠ r) (hb : ∀ j, j < n → (el vs j).ownBlock ≠ some b) (hr : ∀ j, j < n → (el vs j).ownBlock = none ∨ (el vs j).ownBlock ≠ r) : RowT k enc et rt w' base g n vs f :=
 ⟨h.len, ht.blk h.blk hgb hgr, fun j hj => ht.row (h.row j hj) (hb j hj) (hr j hj), h.apart⟩
theorem RowT.alloc (h : RowT k enc et rt w base g n vs f) (o : Obj) : RowT k enc et rt (w.alloc o) base g n vs f := h.later ((Below.refl _ _).alloc (Nat.le_refl _) _)
theorem RowT.push [Inhabited α] {P : Program} {i : TypeInfo} {z : Value} {bytes : Nat} (hk : ∀ x, (enc x).length = k) (hk0 : 0 < k) (h1c : ∀ x, ∀ u ∈ enc x, u.oneCell' = true) (hte : et ≠ rt) (hu : P.underlying rt = some (.slice et)) (hi : P.info? et = some i) (hz : i.zero = some z) (hsize : i.size = k) (hby : i.bytes = bytes) (hzs : z.cells.size = k) (hb24 : bytes ≤ 32)
  (h : RowT k enc et rt w base g n vs f) {t : Nat} (ht : t < n) (hlen : (f t).length ≤ 1000000) (hbase : base ≤ w.heap.size) (x : α) :
  ∃ v' w2, (Builtin.append_ #[rt, rt] rt #[el vs t, .slice (some ⟨w.heap.size, 0, none⟩) 1 1]).run P (w.alloc (.cells (enc x).toArray et)) = .ok v' w2 ∧ RowT k enc et rt (w2.setCell ⟨g, t, none⟩ v') base g n (vs.set t v') (putF t x f) ∧ (w.alloc (.cells (enc x).toArray et)).grownBy w2 (el vs t).ownBlock ∧ Blk w2 g vs.toArray rt := by
 have ha := h.alloc (.cells (enc x).toArray et)
 have hbig : ((f t).length + 1) * bytes ≤ 140737488355328 := by
  have : ((f t).length + 1) * bytes ≤ 1000001 * 32 := Nat.mul_le_mul (by omega) hb24
  omega
 obtain ⟨v', w2, r2, o2, g2, n2⟩ := run_append_spot (P := P) (w := w.alloc (.cells (enc x).toArray et)) hk hk0 h1c rt rt base et i z bytes hu hi hz hsize hby hzs (el vs t) (f t).length ((f t).flatMap enc) (ha.row t ht) (.slice (some ⟨w.heap.size, 0, none⟩) 1 1) [x] (oneRow w x (hk x) et) (by simp; unfold maxLen; omega) (by simpa using hbig) (by rw [World.size_alloc]; exact Nat.le_succ_of_le hbase)
 exact ⟨v', w2, r2, ha.put hte ht o2 g2 n2, g2, ha.blk.grown g2 (own_ne (ha.row t ht) ha.blk hte)⟩
theorem RowT.start (h : Blk w g (List.replicate n (Value.slice none 0 0)).toArray rt) : RowT k enc et rt w base g n (List.replicate n (.slice none 0 0)) (fun _ => []) := by
 have he : ∀ j, j < n → el (List.replicate n (Value.slice none 0 0)) j = .slice none 0 0 := fun j hj => by simp [el, hj]
 refine ⟨by simp, h, fun j hj => ?_, fun i j hi hj _ => ?_⟩
 ·rw [he j hj]; exact World.ownsRow_nil _ _ _ _
 ·rw [he i hi]; exact .inl rfl
theorem RowT.Row [Inhabited α] (hk : ∀ x, (enc x).length = k) (h : RowT k enc et rt w base g n vs f) {j : Nat} (hj : j < n) : Wt.Row k enc w (el vs j) (f j) := Row.ofOwn hk (h.row j hj) rfl
end
theorem made_rowsB (n : Nat) : madeCells (Value.cells (.slice none 0 0)) (n * 1) = (List.replicate n (Value.slice none 0 0)).toArray := by
 have hz : Value.cells (.slice none 0 0) = #[.slice none 0 0] := rfl
 apply Array.ext_getElem?
 intro t
 simp only [madeCells, hz]
 by_cases ht : t < n
 ·simp [ht, Nat.mod_one]
 ·simp [ht]
theorem infoRowW : (Try.prog.info? 135).map (fun i => (i.zero, i.size, i.bytes)) = some (some (.slice none 0 0), 1, 24) := by kernel_rfl
theorem infoRowT : (Try.prog.info? 66).map (fun i => (i.zero, i.size, i.bytes)) = some (some (.slice none 0 0), 1, 24) := by kernel_rfl
theorem infoTwn : (Try.prog.info? 69).map (fun i => (i.zero, i.size, i.bytes)) = some (some (.agg #[.int .i64 0, .int .i64 0]), 2, 16) := by kernel_rfl
theorem run_rowsW (n : Nat) (hn : n ≤ 1000) (W : World) : (Instr.makeSlice 103 (.int .i64 (n : Int)) (.int .i64 (n : Int))).run Try.prog W = .ok (.slice (some ⟨W.heap.size, 0, none⟩) n n) (W.alloc (.cells (List.replicate n (Value.slice none 0 0)).toArray 135)) := by
 obtain ⟨i1, hi1, hy0, hy1, hy2⟩ := info_parts infoRowW
 have h := run_make (P := Try.prog) W 103 135 i1 _ Try.underlying103 hi1 hy0 .i64 .i64 n n (by omega) (by omega) (by rw [hy2]; omega) (by omega)
 rw [hy1, Int.toNat_natCast, made_rowsB] at h
 exact h
theorem run_rowsT (n : Nat) (hn : n ≤ 1000) (W : World) : (Instr.makeSlice 101 (.int .i64 (n : Int)) (.int .i64 (n : Int))).run Try.prog W = .ok (.slice (some ⟨W.heap.size, 0, none⟩) n n) (W.alloc (.cells (List.replicate n (Value.slice none 0 0)).toArray 66)) := by
 obtain ⟨i1, hi1, hy0, hy1, hy2⟩ := info_parts infoRowT
 have h := run_make (P := Try.prog) W 101 66 i1 _ Try.underlying101 hi1 hy0 .i64 .i64 n n (by omega) (by omega) (by rw [hy2]; omega) (by omega)
 rw [hy1, Int.toNat_natCast, made_rowsB] at h
 exact h
theorem RowT.kBlk {α : Type} {k : Nat} {enc : α → List Value} {et rt : TypeId} {w w2 : World} {base g n : Nat} {vs : List Value} {f : Nat → List α} (h : RowT k enc et rt w base g n vs f) {t : Nat} (ht : t < n) {ob : Obj} (hg : (w.alloc ob).grownBy w2 (el vs t).ownBlock) {b : Nat} {cs : Array Value} {t' : TypeId} (hB : Blk w b cs t') (h1 : et ≠ t') (h2 : rt ≠ t') (v : Value) : Blk w2 b cs t' ∧ Blk (w2.setCell ⟨g, t, none⟩ v) b cs t' := by
 have e1 := (hB.alloc ob).grown hg (own_ne ((h.alloc ob).row t ht) (hB.alloc ob) h1)
 refine ⟨e1, e1.setO _ _ fun e => ?_⟩
 have e2 : b = g := e
 subst e2
 have h3 := h.blk
 unfold Blk at h3 hB
 rw [hB] at h3
 simp at h3
 exact h2 h3.2.symm
theorem RowT.kBel {α : Type} {k : Nat} {enc : α → List Value} {et rt : TypeId} {w0 w w2 : World} {base g n B : Nat} {vs : List Value} {f : Nat → List α} (h : RowT k enc et rt w base g n vs f) {t : Nat} (ht : t < n) {ob : Obj} (hg : (w.alloc ob).grownBy w2 (el vs t).ownBlock) (hb : Below B w0 w) (h1 : B ≤ base) (h2 : B ≤ g) (h3 : B ≤ w.heap.size) (v : Value) : Below B w0 (w2.setCell ⟨g, t, none⟩ v) :=
 (hb.trans (((Below.refl B w).alloc h3 ob).trans (gBelow hg (fun k hk => Nat.le_trans h1 ((h.row t ht).lt k hk).1) (by rw [World.size_alloc]; exact Nat.le_succ_of_le h3)))).setCell (p := ⟨g, t, none⟩) h2 v
theorem pushW {w : World} {base g n : Nat} {vs : List Value} {f : Nat → List Ar} (h : RowT 3 encW 134 135 w base g n vs f) {t : Nat} (ht : t < n) (hlen : (f t).length ≤ 1000000) (hbase : base ≤ w.heap.size) (x : Ar) :
  ∃ xa xc va vc w2, el vs t = .slice xa (f t).length xc ∧ (Builtin.append_ #[135, 135] 135 #[.slice xa (f t).length xc, .slice (some ⟨w.heap.size, 0, none⟩) 1 1]).run Try.prog (w.alloc (.cells (encW x).toArray 134)) = .ok (.slice va ((f t).length + 1) vc) w2 ∧ RowT 3 encW 134 135 (w2.setCell ⟨g, t, none⟩ (.slice va ((f t).length + 1) vc)) base g n (vs.set t (.slice va ((f t).length + 1) vc)) (putF t x f) ∧ (w.alloc (.cells (encW x).toArray 134)).grownBy w2 (el vs t).ownBlock ∧ w2.cell? ⟨g, t, none⟩ = some (.slice xa (f t).length xc) ∧ w2.frozen? ⟨g, t, none⟩ = false := by
 obtain ⟨i1, hi1, hy0, hy1, hy2⟩ := info_parts infoWay
 obtain ⟨v', w2, r2, t2, g2, b2⟩ := h.push encW_len (by decide) encW_one (by decide) Try.underlying135 hi1 hy0 hy1 hy2 rfl (by decide) ht hlen hbase x
 obtain ⟨xa, xc, hx⟩ := own_slW (h.row t ht)
 obtain ⟨va, vc, hv⟩ := own_slW (t2.row t ht)
 have hl := h.len
 rw [el_setVb (by omega), if_pos rfl] at hv
 have hpl : (putF t x f t).length = (f t).length + 1 := by unfold putF; rw [if_pos rfl]; simp
 rw [hpl] at hv
 subst hv
 rw [hx] at r2
 exact ⟨xa, xc, va, vc, w2, hx, r2, t2, g2, by rw [← hx]; exact b2.cell _ (by rw [List.getElem?_toArray, el_get (by omega), List.getElem?_eq_getElem (by omega)]), b2.fz t⟩
theorem pushT {w : World} {base g n : Nat} {vs : List Value} {f : Nat → List Int} (h : RowT 2 encT 69 66 w base g n vs f) {t : Nat} (ht : t < n) (hlen : (f t).length ≤ 1000000) (hbase : base ≤ w.heap.size) (x : Int) :
  ∃ xa xc va vc w2, el vs t = .slice xa (f t).length xc ∧ (Builtin.append_ #[66, 66] 66 #[.slice xa (f t).length xc, .slice (some ⟨w.heap.size, 0, none⟩) 1 1]).run Try.prog (w.alloc (.cells (encT x).toArray 69)) = .ok (.slice va ((f t).length + 1) vc) w2 ∧ RowT 2 encT 69 66 (w2.setCell ⟨g, t, none⟩ (.slice va ((f t).length + 1) vc)) base g n (vs.set t (.slice va ((f t).length + 1) vc)) (putF t x f) ∧ (w.alloc (.cells (encT x).toArray 69)).grownBy w2 (el vs t).ownBlock ∧ w2.cell? ⟨g, t, none⟩ = some (.slice xa (f t).length xc) ∧ w2.frozen? ⟨g, t, none⟩ = false := by
 obtain ⟨i1, hi1, hy0, hy1, hy2⟩ := info_parts infoTwn
 obtain ⟨v', w2, r2, t2, g2, b2⟩ := h.push encT_len (by decide) encT_one (by decide) Try.underlying66 hi1 hy0 hy1 hy2 rfl (by decide) ht hlen hbase x
 obtain ⟨xa, xc, hx⟩ := own_slW (h.row t ht)
 obtain ⟨va, vc, hv⟩ := own_slW (t2.row t ht)
 have hl := h.len
 rw [el_setVb (by omega), if_pos rfl] at hv
 have hpl : (putF t x f t).length = (f t).length + 1 := by unfold putF; rw [if_pos rfl]; simp
 rw [hpl] at hv
 subst hv
 rw [hx] at r2
 exact ⟨xa, xc, va, vc, w2, hx, r2, t2, g2, by rw [← hx]; exact b2.cell _ (by rw [List.getElem?_toArray, el_get (by omega), List.getElem?_eq_getElem (by omega)]), b2.fz t⟩
theorem rowT_get {w : World} {v : Value} {ks : List Int} (h : Row 2 encT w v ks) : ∃ a cap, v = .slice a ks.length cap ∧ ∀ j, j < ks.length → ∃ b off, a = some ⟨b, off, none⟩ ∧ b < w.heap.size ∧ w.cell? ⟨b, off + j * 2, none⟩ = some (.int .i64 (kA (el ks j))) ∧ w.cell? ⟨b, off + j * 2 + 1, none⟩ = some (.int .i64 (kB (el ks j))) := by
 by_cases hz : 0 < ks.length
 ·obtain ⟨b, off, cap, rfl, hb, hc⟩ := Row.plain h (fun x => by rw [encT_len]; decide) hz
  exact ⟨_, _, rfl, fun j hj => ⟨b, off, rfl, hb, hc j hj 0 _ rfl, hc j hj 1 _ rfl⟩⟩
 ·obtain ⟨a, cap, rfl⟩ := Row.sl h
  exact ⟨a, cap, rfl, fun j hj => absurd hj (by omega)⟩
theorem rowW_get {w : World} {v : Value} {ws : List Ar} (h : Row 3 encW w v ws) : ∃ a cap, v = .slice a ws.length cap ∧ ∀ j, j < ws.length → ∃ b off, a = some ⟨b, off, none⟩ ∧ b < w.heap.size ∧ ThrW w b (off + j * 3) (el ws j) := by
 by_cases hz : 0 < ws.length
 ·obtain ⟨b, off, cap, rfl, hb, hc⟩ := Row.plain h (fun x => by rw [encW_len]; decide) hz
  exact ⟨_, _, rfl, fun j hj => ⟨b, off, rfl, hb, hc j hj 0 _ rfl, hc j hj 1 _ rfl, hc j hj 2 _ rfl⟩⟩
 ·obtain ⟨a, cap, rfl⟩ := Row.sl h
  exact ⟨a, cap, rfl, fun j hj => absurd hj (by omega)⟩
def StpT (w : World) (T n : Nat) (rows : List Value) (S : List (List Ar)) : Prop := T < w.heap.size ∧ ∀ q, q < n → w.cell? ⟨T, q, none⟩ = some (el rows q) ∧ Row 3 encW w (el rows q) (el S q)
theorem StpT.of {w : World} {base T n : Nat} {rows : List Value} {S : List (List Ar)} (h : RowT 3 encW 134 135 w base T n rows (fun j => el S j)) : StpT w T n rows S :=
 ⟨h.blk.lt, fun q hq => ⟨h.cell hq, h.Row encW_len hq⟩⟩
end Go.Proofs.Ytfpibdaedfilaaa.Bw
