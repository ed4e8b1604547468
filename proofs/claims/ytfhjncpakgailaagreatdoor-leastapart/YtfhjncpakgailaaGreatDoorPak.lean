/- Making certain as the program does: sets as lists of parts, and their texts (no program in sight). -/
import Derived.Test.YtfhjncpakgailaaGreatDoorPaj
import Derived.Test.YtfhjncpakgailaaGreatDoorPah
import Derived.Test.YtfhjncpakgailaaGreatDoorPad
import Derived.Test.YtfhjncpakgailaaGreatDoorPab
import Derived.Maps.Own
import Derived.Maps.OwnSet
import Derived.Maps.Views
import Derived.WideKeyEntry
import Derived.BigQuiet
namespace Go.Proofs.YtfhjncpakgailaaGreatDoor.Pl
set_option linter.unusedVariables false
set_option linter.unusedSimpArgs false
abbrev Pa := Int × Int
def parU (S : List Int) (k : Nat) : List Pa := (List.range k).flatMap fun q => if el S q = noneI then [] else [((q : Int), el S q)]
def parL (S : List Int) : List Pa := parU S S.length
theorem mem_parU {S : List Int} {k : Nat} {p : Pa} : p ∈ parU S k ↔ ∃ q : Nat, q < k ∧ el S q ≠ noneI ∧ p = ((q : Int), el S q) := by
 unfold parU
 rw [List.mem_flatMap]
 constructor
 ·rintro ⟨q, hq, h⟩
  rw [List.mem_range] at hq
  by_cases e : el S q = noneI
  ·rw [if_pos e] at h; cases h
  ·rw [if_neg e, List.mem_singleton] at h; exact ⟨q, hq, e, h⟩
 ·rintro ⟨q, hq, e, rfl⟩
  exact ⟨q, List.mem_range.2 hq, by rw [if_neg e]; simp⟩
theorem parU_succ (S : List Int) (k : Nat) : parU S (k + 1) = parU S k ++ (if el S k = noneI then [] else [((k : Int), el S k)]) := by
 unfold parU
 rw [List.range_succ, List.flatMap_append]
 simp
theorem mem_parL {S : List Int} {p : Pa} : p ∈ parL S ↔ ∃ q : Nat, q < S.length ∧ el S q ≠ noneI ∧ p = ((q : Int), el S q) := mem_parU
theorem parL_inj {S T : List Int} (hl : S.length = T.length) (h : parL S = parL T) : S = T := by
 refine el_ext hl fun q hq => ?_
 by_cases a : el S q = noneI
 ·by_cases b : el T q = noneI
  ·rw [a, b]
  ·exfalso
   have h1 : ((q : Int), el T q) ∈ parL S := by rw [h]; exact mem_parL.2 ⟨q, by omega, b, rfl⟩
   obtain ⟨r, _, h2, h3⟩ := mem_parL.1 h1
   simp only [Prod.mk.injEq] at h3
   have : r = q := by omega
   subst this
   exact h2 a
 ·have h1 : ((q : Int), el S q) ∈ parL T := by rw [← h]; exact mem_parL.2 ⟨q, hq, a, rfl⟩
  obtain ⟨r, _, h2, h3⟩ := mem_parL.1 h1
  simp only [Prod.mk.injEq] at h3
  have : r = q := by omega
  subst this
  exact h3.2
theorem parU_pair (S : List Int) (k : Nat) : (parU S k).Pairwise fun a b => a.1 < b.1 := by
  induction k with
  | zero => simp [parU]
  | succ k ih =>
    rw [parU_succ, List.pairwise_append]
    refine ⟨ih, by split <;> simp, fun a ha b hb => ?_⟩
    obtain ⟨q, hq, _, rfl⟩ := mem_parU.1 ha
    split at hb
    · cases hb
    · rw [List.mem_singleton] at hb
      subst hb
      simp only
      omega
theorem parU_len (S : List Int) (k : Nat) : (parU S k).length ≤ k := by
  induction k with
  | zero => simp [parU]
  | succ k ih =>
    rw [parU_succ, List.length_append]
    split <;> simp <;> omega
theorem parL_len (S : List Int) : (parL S).length ≤ S.length := parU_len S _
theorem par_one {ps : List Pa} {S : List Int} (h1 : ps.Pairwise fun a b => a.1 < b.1) (h2 : ∀ p, p ∈ ps ↔ p ∈ parL S) : ps = parL S := by
 have n1 : ps.Nodup := h1.imp fun {a b} h e => by subst e; omega
 have n2 : (parL S).Nodup := (parU_pair S S.length).imp fun {a b} h e => by subst e; omega
 refine List.Perm.eq_of_pairwise (le := fun a b => a.1 < b.1) ?_ h1 (parU_pair S S.length) ((List.perm_ext_iff_of_nodup n1 n2).2 h2)
 intro a b _ _ g1 g2
 omega
theorem parL_ini {n z : Nat} (hz : z < n) : parL (iniS n z) = [((z : Int), 0)] := by
 refine (par_one (by simp) fun p => ?_).symm
 rw [mem_parL, List.mem_singleton]
 have hl : (iniS n z).length = n := by simp [iniS]
 constructor
 ·rintro rfl
  exact ⟨z, by omega, by rw [iniS_el hz hz, if_pos rfl]; decide, by rw [iniS_el hz hz, if_pos rfl]⟩
 ·rintro ⟨q, hq, h1, rfl⟩
  rw [hl] at hq
  rw [iniS_el hz hq] at h1 ⊢
  by_cases e : q = z
  ·rw [if_pos e, e]
  ·rw [if_neg e] at h1; exact absurd rfl h1
def SmP (n : Nat) (B : Int) (p : Pa) : Prop := 0 ≤ p.1 ∧ p.1 < n ∧ 0 ≤ p.2 ∧ p.2 ≤ B
theorem parL_sm {n : Nat} {B : Int} {S : List Int} (h : SetN n B S) : ∀ p ∈ parL S, SmP n B p := fun p hp => by
 obtain ⟨q, hq, h1, rfl⟩ := mem_parL.1 hp
 rw [h.len] at hq
 rcases h.rng q hq with g | g
 ·exact absurd g h1
 ·exact ⟨by simp only; omega, by simp only; omega, g.1, g.2⟩
def txP (p : Pa) : List UInt8 := dgT p.1 ++ 58 :: (dgT p.2 ++ [32])
def txL (l : List Pa) : List UInt8 := l.flatMap txP
theorem txL_snoc (l : List Pa) (p : Pa) : txL (l ++ [p]) = (((txL l ++ dgT p.1) ++ [58]) ++ dgT p.2) ++ [32] := by
 simp [txL, txP]
theorem txL_inj : ∀ {l r : List Pa}, (∀ p ∈ l, 0 ≤ p.1 ∧ 0 ≤ p.2) → (∀ p ∈ r, 0 ≤ p.1 ∧ 0 ≤ p.2) → txL l = txL r → l = r
  | [], [], _, _, _ => rfl
  | [], q :: r, _, _, h => by
    have h9 := congrArg List.length h
    simp [txL, txP] at h9
  | p :: l, [], _, _, h => by
    have h9 := congrArg List.length h
    simp [txL, txP] at h9
  | p :: l, q :: r, hl, hr, h => by
    have e : dgT p.1 ++ 58 :: (dgT p.2 ++ 32 :: txL l) = dgT q.1 ++ 58 :: (dgT q.2 ++ 32 :: txL r) := by simpa [txL, txP] using h
    obtain ⟨h1, h2⟩ := cut_one 58 _ _ _ _ (fun b hb => (dgT_bytes _ b hb).1) (fun b hb => (dgT_bytes _ b hb).1) e
    obtain ⟨h3, h4⟩ := cut_one 32 _ _ _ _ (fun b hb => (dgT_bytes _ b hb).2) (fun b hb => (dgT_bytes _ b hb).2) h2
    have hp := hl p List.mem_cons_self
    have hq := hr q List.mem_cons_self
    have e1 := dgT_inj hp.1 hq.1 h1
    have e2 := dgT_inj hp.2 hq.2 h3
    have e3 := txL_inj (fun x hx => hl x (List.mem_cons_of_mem _ hx)) (fun x hx => hr x (List.mem_cons_of_mem _ hx)) h4
    rw [e3, Prod.ext e1 e2]
theorem txL_len {l : List Pa} (h : ∀ p ∈ l, p.1 ≤ 9999999999999 ∧ p.2 ≤ 9999999999999) : (txL l).length ≤ l.length * 28 := by
  induction l with
  | nil => simp [txL]
  | cons p l ih =>
    have h1 := ih fun x hx => h x (List.mem_cons_of_mem _ hx)
    have h2 := h p List.mem_cons_self
    have h3 := dgT_len h2.1
    have h4 := dgT_len h2.2
    have e : txL (p :: l) = txP p ++ txL l := rfl
    rw [e, List.length_append]
    simp [txP]
    omega
theorem drop_el {α : Type} [Inhabited α] {hs : List (Hg α)} {i : Nat} (h : i < hs.length) : hs.drop i = el hs i :: hs.drop (i + 1) := by
 rw [List.drop_eq_getElem_cons h, el_get h]
section
variable {α : Type} [DecidableEq α] [Inhabited α]
def hpL (hs : List (Hg α)) (L : List α) : Nat → List α
 | 0 => L
 | i + 1 => addG (hpL hs L i) (el hs i).2.2.2
def hpA (hs : List (Hg α)) (L : List α) : Nat → List Ar
 | 0 => []
 | i + 1 => hpA hs L i ++ [arcG (hpL hs L i) (el hs i)]
theorem hpA_len (hs : List (Hg α)) (L : List α) : ∀ i, (hpA hs L i).length = i
 | 0 => rfl
 | i + 1 => by simp [hpA, hpA_len hs L i]
theorem hpL_nodup {hs : List (Hg α)} {L : List α} (h : L.Nodup) : ∀ i, (hpL hs L i).Nodup
 | 0 => h
 | i + 1 => addG_nodup (hpL_nodup h i) _
def Fine (hs : List (Hg α)) (L : List α) (n i : Nat) : Prop := ∀ j, j < i → (el hs j).2.2.1 ≤ 1000000000 ∧ n + (j + 1) ≤ 400 ∧ (hpL hs L (j + 1)).length ≤ 60
theorem numH_at {hs : List (Hg α)} {L : List α} {n : Nat} : ∀ {i : Nat}, i ≤ hs.length → Fine hs L n i → numH hs L n = ((numH (hs.drop i) (hpL hs L i) (n + i)).1, (numH (hs.drop i) (hpL hs L i) (n + i)).2.1, hpA hs L i ++ (numH (hs.drop i) (hpL hs L i) (n + i)).2.2) := by
  intro i
  induction i with
  | zero => intro _ _; simp [hpL, hpA]
  | succ i ih =>
    intro hi hf
    obtain ⟨h1, h2, h3⟩ := hf i (Nat.lt_succ_self _)
    rw [ih (by omega) (fun j hj => hf j (by omega)), drop_el (by omega)]
    simp only [numH]
    have h3' : (addG (hpL hs L i) (el hs i).2.2.2).length ≤ 60 := h3
    rw [if_neg (by omega), if_neg (by omega)]
    simp only [hpL, hpA, List.append_assoc, List.singleton_append, Nat.add_assoc]
variable {fin : α → Int × Int} {hops : α → List (Hg α)} {s0 : α}
structure NumI (fin : α → Int × Int) (hops : α → List (Hg α)) (s0 : α) (q : Nat) (L : List α) (S : List St) (n : Nat) : Prop where
 nodup : L.Nodup
 le : q ≤ L.length
 l60 : L.length ≤ 60
 n4 : n ≤ 400
 len : S.length = q
 exp : ExpI fin hops s0 q L S
 ans : numA fin hops s0 = numS fin hops (61 - q) q L S n
theorem NumI.init (fin : α → Int × Int) (hops : α → List (Hg α)) (s0 : α) : NumI fin hops s0 0 [s0] [] 0 := ⟨by simp, by simp, by simp, by omega, rfl, ExpI.init _ _ _, rfl⟩
variable {q : Nat} {L : List α} {S : List St} {n : Nat}
theorem NumI.stop (h : NumI fin hops s0 q L S n) (hq : ¬ q < L.length) : numA fin hops s0 = ((0, S), 0) := by
 have h1 := h.le
 have h2 := h.l60
 rw [h.ans, show 61 - q = (60 - q) + 1 by omega]
 simp only [numS]
 rw [if_neg hq]
theorem NumI.err (h : NumI fin hops s0 q L S n) (hq : q < L.length) (he : (fin (el L q)).2 ≠ 0) : numA fin hops s0 = ((0, []), (fin (el L q)).2) := by
 have h2 := h.l60
 rw [h.ans, show 61 - q = (60 - q) + 1 by omega]
 simp only [numS]
 rw [if_pos hq, if_pos he]
theorem NumI.bad (h : NumI fin hops s0 q L S n) (hq : q < L.length) (he : (fin (el L q)).2 = 0) {ec : Int} (h0 : ec ≠ 0) (hn : (numH (hops (el L q)) L n).1 = ec) : numA fin hops s0 = ((0, []), ec) := by
 have h2 := h.l60
 rw [h.ans, show 61 - q = (60 - q) + 1 by omega]
 simp only [numS]
 rw [if_pos hq, if_neg (fun g => g he), hn, if_pos h0]
theorem NumI.over (h : NumI fin hops s0 q L S n) (hq : q < L.length) (he : (fin (el L q)).2 = 0) {i : Nat} (hi : i < (hops (el L q)).length) (hf : Fine (hops (el L q)) L n i) (ho : 1000000000 < (el (hops (el L q)) i).2.2.1) : numA fin hops s0 = ((0, []), 4) := by
 refine h.bad hq he (by decide) ?_
 rw [numH_at (by omega) hf, drop_el hi]
 simp only [numH]
 rw [if_pos ho]
theorem NumI.full (h : NumI fin hops s0 q L S n) (hq : q < L.length) (he : (fin (el L q)).2 = 0) {i : Nat} (hi : i < (hops (el L q)).length) (hf : Fine (hops (el L q)) L n i) (ho : (el (hops (el L q)) i).2.2.1 ≤ 1000000000) (hx : 400 < n + (i + 1) ∨ 60 < (hpL (hops (el L q)) L (i + 1)).length) : numA fin hops s0 = ((0, []), 5) := by
 refine h.bad hq he (by decide) ?_
 rw [numH_at (by omega) hf, drop_el hi]
 simp only [numH]
 rw [if_neg (by omega), if_pos (by simpa [hpL, Nat.add_assoc] using hx)]
theorem NumI.next (h : NumI fin hops s0 q L S n) (hq : q < L.length) (he : (fin (el L q)).2 = 0) (hf : Fine (hops (el L q)) L n (hops (el L q)).length) :
  NumI fin hops s0 (q + 1) (hpL (hops (el L q)) L (hops (el L q)).length) (S ++ [((fin (el L q)).1, hpA (hops (el L q)) L (hops (el L q)).length)]) (n + (hops (el L q)).length) := by
 have h2 := h.l60
 have e := numH_at (Nat.le_refl _) hf
 rw [List.drop_length] at e
 simp only [numH, List.append_nil] at e
 have e0 : (numH (hops (el L q)) L n).1 = 0 := by rw [e]
 have hs := h.exp.step hq he e0
 rw [e] at hs
 simp only at hs
 have hn : n + (hops (el L q)).length ≤ 400 := by
  have h4 := h.n4
  cases hl : (hops (el L q)).length with
  | zero => omega
  | succ k => have := (hf k (by omega)).2.1; omega
 refine ⟨hs.nodup, hs.le, hs.l60, hn, hs.len, hs, ?_⟩
 rw [h.ans, show 61 - q = (60 - q) + 1 by omega, show 61 - (q + 1) = 60 - q by omega]
 conv => lhs; simp only [numS]
 rw [if_pos hq, if_neg (fun g => g he), if_neg (fun g => g e0), e]
end
end Go.Proofs.YtfhjncpakgailaaGreatDoor.Pl
namespace Go.Proofs.YtfhjncpakgailaaGreatDoor.Wt
open Go.ChangeShapes Go.WideShapes Go.ChangeAt Go.RowKit Go.Maps
open Go.Proofs.YtfhjncpakgailaaGreatDoor.Pl
set_option linter.unusedVariables false
set_option linter.unusedSimpArgs false
theorem lawTx : Keyed Tryz.prog 9 := string_keyed Tryz.underlying9
theorem wfNat {n : Int} (h0 : 0 ≤ n) (h : n ≤ 100000000000000) : (Lit.int .i64 n).wf = true := by
 simp [Lit.wf, IntKind.min, IntKind.max, IntKind.signed, IntKind.bits]
 omega
def TxM (w : World) (m : Nat) (ks : List (List UInt8)) : Prop :=
  ∃ D : DataW Unit, w.ownsMap Tryz.prog 9 (plainElem Tryz.prog 3) m ks.length D ∧ Maps.size D = ks.length ∧
    ∀ p : List UInt8, (∀ i, i < ks.length → el ks i = p → has D (.string p) = true ∧ D.atKey (.string p) (.lit (.int .i64 0)) = .lit (.int .i64 (i : Int))) ∧ (p ∉ ks → has D (.string p) = false ∧ D.atKey (.string p) (.lit (.int .i64 0)) = .lit (.int .i64 0))
theorem TxM.lt {w : World} {m : Nat} {ks : List (List UInt8)} (h : TxM w m ks) : m < w.heap.size := by obtain ⟨D, h, _⟩ := h; exact h.lt
theorem TxM.made (w : World) : TxM (w.alloc (.map #[] 0)) w.heap.size [] :=
 ⟨_, World.ownsMap_made w _ _ _, rfl, fun p => ⟨fun i hi => absurd hi (by simp), fun _ => ⟨rfl, by simp [DataW.atKey]⟩⟩⟩
theorem TxM.keep {w w' : World} {m : Nat} {ks : List (List UInt8)} (h : TxM w m ks) (e : w'.heap[m]? = w.heap[m]?) : TxM w' m ks := by
 obtain ⟨D, ⟨es, clock, hb, h0⟩, h1⟩ := h
 exact ⟨D, ⟨es, clock, e.trans hb, h0⟩, h1⟩
theorem TxM.neBlk {w : World} {m b : Nat} {ks : List (List UInt8)} (h : TxM w m ks) {cs : Array Value} {t : TypeId} (hb : Blk w b cs t) : m ≠ b := by
 obtain ⟨D, h, _⟩ := h
 exact Ne.symm (map_ne_blk hb h)
theorem TxM.neRow {w : World} {m base : Nat} {ks : List (List UInt8)} {e : TypeId} {s : Nat} {v : Value} {n : Nat} {xs : List Value} (h : TxM w m ks) (ho : w.ownsRow base e s v n xs) : some m ≠ v.ownBlock := by
 obtain ⟨D, ⟨es, clock, hb, _⟩, _⟩ := h
 rcases ho.2 with ⟨rfl, _⟩ | ⟨g, cap', cur, rfl, hbg, hg, _⟩
 ·simp [Value.ownBlock]
 ·simp only [Value.ownBlock]
  intro e2
  simp at e2
  subst e2
  rw [hb] at hg
  cases hg
theorem zeroTx (w : World) : (zeroValue 3).run Tryz.prog w = .ok (.int .i64 0) w := by kernel_rfl
theorem keyTx {p : List UInt8} (h : p.length ≤ 1000000) : keyOf Tryz.prog 9 (.string ⟨p.toArray⟩) = some (.string p) := by
 have h9 := Go.WideMaps.keyOf_string_mk (P := Tryz.prog) Tryz.underlying9 (s := ⟨p.toArray⟩) (by show p.toArray.size ≤ maxLen; unfold maxLen; simp; omega)
 simpa using h9
set_option maxRecDepth 100000 in
theorem TxM.look {w : World} {m : Nat} {ks : List (List UInt8)} (h : TxM w m ks) {p : List UInt8} (hp : p.length ≤ 1000000) :
  (∃ i, i < ks.length ∧ el ks i = p ∧ (Instr.lookup 78 (.map (some m)) (.string ⟨p.toArray⟩) true).run Tryz.prog w = .ok (.tuple #[.int .i64 (i : Int), .bool true]) w) ∨
  (p ∉ ks ∧ (Instr.lookup 78 (.map (some m)) (.string ⟨p.toArray⟩) true).run Tryz.prog w = .ok (.tuple #[.int .i64 0, .bool false]) w) := by
 obtain ⟨D, h1, _, h3⟩ := h
 have hk := keyTx hp
 obtain ⟨v, ps, hr, hv⟩ := World.ownsMap.look_ok h1 lawTx Tryz.underlying78 (zeroTx w) (plainElem_int Tryz.underlying3 (by decide)) hk
 obtain ⟨c, rfl, hc, _⟩ := plainElem_int_inv Tryz.underlying3 hv
 have hc' := congrArg Prod.fst hc
 simp only at hc'
 obtain ⟨g1, g2⟩ := h3 p
 by_cases he : p ∈ ks
 ·obtain ⟨i, hi, hd⟩ := mem_el he
  obtain ⟨k1, k2⟩ := g1 i hi hd
  left
  refine ⟨i, hi, hd, ?_⟩
  rw [k2] at hc'
  rw [k1] at hr
  injection hc' with e1
  injection e1 with _ e2
  rw [← e2] at hr
  exact hr
 ·right
  rw [(g2 he).1] at hr
  rw [(g2 he).2] at hc'
  injection hc' with e1
  injection e1 with _ e2
  rw [← e2] at hr
  exact ⟨he, hr⟩
set_option maxRecDepth 100000 in
theorem TxM.put {w : World} {m : Nat} {ks : List (List UInt8)} (h : TxM w m ks) {p : List UInt8} (hp : p.length ≤ 1000000) (hno : p ∉ ks) (hn : ks.length < 100000) :
  ∃ w', (Instr.mapUpdate 78 (.map (some m)) (.string ⟨p.toArray⟩) (.int .i64 (ks.length : Int))).run Tryz.prog w = .ok () w' ∧ TxM w' m (ks ++ [p]) ∧ w.grownBy w' (some m) := by
 obtain ⟨D, h1, h2, h3⟩ := h
 have hk := keyTx hp
 obtain ⟨w', hu, ho, hg⟩ := World.ownsMap.update (R := plainElem Tryz.prog 3) h1 lawTx Tryz.underlying78 (by unfold maxLen; omega) hk (plainElem_int Tryz.underlying3 (wfNat (n := (ks.length : Int)) (by omega) (by omega)))
 refine ⟨w', hu, ⟨_, by rw [List.length_append]; exact ho, ?_, fun q => ?_⟩, hg⟩
 ·rw [size_put (h1.tidy lawTx), ((h3 p).2 hno).1, h2]
  simp
 ·by_cases e : q = p
  ·subst e
   refine ⟨fun i hi hd => ⟨has_put_same h1.isMap (lawTx.key hk) _, ?_⟩, fun hq => absurd (List.mem_append_right _ List.mem_cons_self) hq⟩
   rw [atKey_put_same h1.isMap (lawTx.key hk)]
   rw [List.length_append] at hi
   simp at hi
   by_cases ei : i < ks.length
   ·rw [el_left ei] at hd
    exact absurd (hd ▸ el_mem ei) hno
   ·obtain rfl : i = ks.length := by omega
    rfl
  ·have hne : Lit.string q ≠ Lit.string p := fun h => by
    injection h with h
    exact e h
   obtain ⟨g1, g2⟩ := h3 q
   refine ⟨fun i hi hd => ?_, fun hq => ?_⟩
   ·rw [List.length_append] at hi
    simp at hi
    by_cases ei : i < ks.length
    ·rw [el_left ei] at hd
     obtain ⟨k1, k2⟩ := g1 i ei hd
     exact ⟨(has_put_other hne _).trans k1, (atKey_put_other hne _ _).trans k2⟩
    ·obtain rfl : i = ks.length := by omega
     rw [el_last] at hd
     exact absurd hd.symm e
   ·obtain ⟨k1, k2⟩ := g2 fun hd => hq (List.mem_append_left _ hd)
    exact ⟨(has_put_other hne _).trans k1, (atKey_put_other hne _ _).trans k2⟩
theorem TxM.look_old {w : World} {m : Nat} {ks : List (List UInt8)} (h : TxM w m ks) {p : List UInt8} (hp : p.length ≤ 1000000) (hN : ks.Nodup) {i : Nat} (hi : i < ks.length) (he : el ks i = p) : (Instr.lookup 78 (.map (some m)) (.string ⟨p.toArray⟩) true).run Tryz.prog w = .ok (.tuple #[.int .i64 (i : Int), .bool true]) w := by
 rcases h.look hp with ⟨j, hj, hej, hr⟩ | ⟨hno, _⟩
 ·have h1 := idxG_el hN hi
  have h2 := idxG_el hN hj
  rw [he] at h1
  rw [hej, h1] at h2
  subst h2
  exact hr
 ·exact absurd (he ▸ el_mem hi) hno
theorem TxM.look_new {w : World} {m : Nat} {ks : List (List UInt8)} (h : TxM w m ks) {p : List UInt8} (hp : p.length ≤ 1000000) (hno : p ∉ ks) : (Instr.lookup 78 (.map (some m)) (.string ⟨p.toArray⟩) true).run Tryz.prog w = .ok (.tuple #[.int .i64 0, .bool false]) w := by
 rcases h.look hp with ⟨j, hj, hej, hr⟩ | ⟨_, hr⟩
 ·exact absurd (hej ▸ el_mem hj) hno
 ·exact hr
def encP (p : Pa) : List Value := [.int .i64 p.1, .int .i64 p.2]
theorem encP_len (p : Pa) : (encP p).length = 2 := rfl
theorem encP_one (p : Pa) : ∀ u ∈ encP p, u.oneCell' = true := by
 intro u hu
 simp [encP] at hu
 rcases hu with rfl | rfl <;> rfl
theorem infoPart : (Tryz.prog.info? 84).map (fun i => (i.zero, i.size, i.bytes)) = some (some (.agg #[.int .i64 0, .int .i64 0]), 2, 16) := by kernel_rfl
def OwnP (w : World) (base : Nat) (v : Value) (ps : List Pa) : Prop := w.ownsRow base 84 2 v ps.length (ps.flatMap encP)
theorem OwnP.nil (w : World) (base : Nat) : OwnP w base (.slice none 0 0) [] := World.ownsRow_nil _ _ _ _
theorem OwnP.later {w w' : World} {base : Nat} {v : Value} {ps : List Pa} (h : OwnP w base v ps) (hb : Below w.heap.size w w') : OwnP w' base v ps := ownBelow h hb
theorem OwnP.mono {w : World} {base base' : Nat} {v : Value} {ps : List Pa} (h : OwnP w base v ps) (hb : base' ≤ base) : OwnP w base' v ps := ownMono h hb
theorem OwnP.sl {w : World} {base : Nat} {v : Value} {ps : List Pa} (h : OwnP w base v ps) : ∃ a cap, v = .slice a ps.length cap := own_sl h
theorem OwnP.one (w : World) (p : Pa) {base : Nat} (hb : base ≤ w.heap.size) : OwnP (w.alloc (.cells (encP p).toArray 84)) base (.slice (some ⟨w.heap.size, 0, none⟩) 1 1) [p] := by
 refine ⟨rfl, .inr ⟨w.heap.size, 1, (encP p).toArray, rfl, hb, Blk.made _ _ _, by simp, by unfold maxLen; omega, rfl, ?_⟩⟩
 simp [encP]
theorem OwnP.cell {w : World} {base : Nat} {a : Option Addr} {n cap : Nat} {ps : List Pa} (h : OwnP w base (.slice a n cap) ps) {j : Nat} (hj : j < ps.length) : ∃ b off, a = some ⟨b, off, none⟩ ∧ b < w.heap.size ∧ w.cell? ⟨b, off + j * 2, none⟩ = some (.int .i64 (el ps j).1) ∧ w.cell? ⟨b, off + j * 2 + 1, none⟩ = some (.int .i64 (el ps j).2) := by
 have hr : Row 2 encP w (.slice a n cap) ps := Row.ofOwn encP_len h rfl
 obtain ⟨b, off, cap', hv, hb, hc⟩ := hr.plain (fun x => by rw [encP_len]; omega) (by omega)
 obtain ⟨rfl, _, _⟩ : a = some ⟨b, off, none⟩ ∧ n = ps.length ∧ cap = cap' := by simpa using hv
 exact ⟨b, off, rfl, hb, hc j hj 0 _ rfl, hc j hj 1 _ rfl⟩
theorem OwnP.push {W : World} {base : Nat} {v : Value} {ps : List Pa} (h : OwnP W base v ps) (p : Pa) (hl : ps.length ≤ 100000) (hb : base ≤ W.heap.size) :
  ∃ v' w', (Builtin.append_ #[86, 86] 86 #[v, .slice (some ⟨W.heap.size, 0, none⟩) 1 1]).run Tryz.prog (W.alloc (.cells (encP p).toArray 84)) = .ok v' w' ∧ OwnP w' base v' (ps ++ [p]) ∧ Below base W w' ∧ (W.alloc (.cells (encP p).toArray 84)).grownBy w' v.ownBlock := by
 obtain ⟨i1, hi1, hy0, hy1, hy2⟩ := info_parts infoPart
 obtain ⟨v4, w4, r4, ho4, hg4, _⟩ := run_append_spot (P := Tryz.prog) (w := W.alloc (.cells (encP p).toArray 84)) encP_len (by decide) encP_one 86 86 base 84 i1 _ 16 Tryz.underlying86 hi1 hy0 hy1 hy2 rfl _ ps.length (ps.flatMap encP) (World.ownsRow.alloc h _) _ [p] (oneRow (enc := encP) W p rfl 84) (by simp; unfold maxLen; omega) (by simp; omega) (by simp; omega)
 have ho : OwnP w4 base v4 (ps ++ [p]) := by unfold OwnP; rw [List.length_append, List.flatMap_append]; exact ho4
 exact ⟨v4, w4, r4, ho, ((Below.refl _ _).alloc hb _).grown hg4 (by simp; omega) (own_geK h), hg4⟩
abbrev Slc := Option Addr × Nat × Nat
def slV (s : Slc) : Value := .slice s.1 s.2.1 s.2.2
def encL (s : Slc) : List Value := [.slice s.1 s.2.1 s.2.2]
theorem encL_len (s : Slc) : (encL s).length = 1 := rfl
theorem encL_one (s : Slc) : ∀ u ∈ encL s, u.oneCell' = true := by
 intro u hu
 simp [encL] at hu
 subst hu
 rfl
theorem infoSetC : (Tryz.prog.info? 86).map (fun i => (i.zero, i.size, i.bytes)) = some (some (.slice none 0 0), 1, 24) := by kernel_rfl
def SetsM (w : World) (base : Nat) (v : Value) (L : List (List Pa)) : Prop := ∃ ss : List Slc, ss.length = L.length ∧ w.ownsRow base 86 1 v ss.length (ss.flatMap encL) ∧ ∀ j, j < L.length → OwnP w base (slV (el ss j)) (el L j)
theorem SetsM.nil (w : World) (base : Nat) : SetsM w base (.slice none 0 0) [] := ⟨[], rfl, World.ownsRow_nil _ _ _ _, fun j hj => absurd hj (by simp)⟩
theorem SetsM.later {w w' : World} {base : Nat} {v : Value} {L : List (List Pa)} (h : SetsM w base v L) (hb : Below w.heap.size w w') : SetsM w' base v L := by
 obtain ⟨ss, h1, h2, h3⟩ := h
 exact ⟨ss, h1, ownBelow h2 hb, fun j hj => (h3 j hj).later hb⟩
theorem SetsM.sl {w : World} {base : Nat} {v : Value} {L : List (List Pa)} (h : SetsM w base v L) : ∃ a c, v = .slice a L.length c := by
 obtain ⟨ss, h1, h2, h3⟩ := h
 obtain ⟨a, c, hv⟩ := own_sl h2
 exact ⟨a, c, by rw [hv, h1]⟩
theorem SetsM.get {w : World} {base : Nat} {a : Option Addr} {n cap : Nat} {L : List (List Pa)} (h : SetsM w base (.slice a n cap) L) {q : Nat} (hq : q < L.length) : ∃ G b c, a = some ⟨G, 0, none⟩ ∧ G < w.heap.size ∧ w.cell? ⟨G, q, none⟩ = some (.slice b (el L q).length c) ∧ OwnP w base (.slice b (el L q).length c) (el L q) := by
 obtain ⟨ss, h1, h2, h3⟩ := h
 have h2' := h2
 rcases h2.2 with ⟨_, h0⟩ | ⟨G, cap, cur, hv, hb, hG, _⟩
 ·omega
 ·injection hv with e1 _ _
  have h4 := h3 q hq
  obtain ⟨b, c, hs⟩ := h4.sl
  refine ⟨G, b, c, e1, lt_of_block hG, ?_, by rw [← hs]; exact h4⟩
  have h9 := h2'.cells (g := G) (by rw [e1]; rfl) q (slV (el ss q)) (by
   have := flat_at encL_len ss q (by omega) 0 (by omega)
   rw [Nat.mul_one, Nat.add_zero] at this
   rw [this]; rfl)
  rw [Addr.add_lit, Nat.zero_add, hs] at h9
  exact h9
theorem SetsM.kept {w w' : World} {base b' : Nat} {v vo : Value} {L : List (List Pa)} {e : TypeId} {s n : Nat} {ms : List Value} (h : SetsM w base v L) (ho : w.ownsRow b' e s vo n ms) (he : e ≠ 86) (hi : e ≠ 84) (hg : w.grownBy w' vo.ownBlock) : SetsM w' base v L := by
 obtain ⟨ss, h1, h2, h3⟩ := h
 exact ⟨ss, h1, h2.kept hg (own_apart h2 ho (Ne.symm he)), fun j hj => World.ownsRow.kept (h3 j hj) hg (own_apart (h3 j hj) ho (Ne.symm hi))⟩
theorem SetsM.setB {w : World} {base : Nat} {v : Value} {L : List (List Pa)} (h : SetsM w base v L) {b : Nat} {cs : Array Value} {t : TypeId} (hb : Blk w b cs t) (ht : 86 ≠ t) (hi : 84 ≠ t) (o : Nat) (u : Value) : SetsM (w.setCell ⟨b, o, none⟩ u) base v L := by
 obtain ⟨ss, h1, h2, h3⟩ := h
 exact ⟨ss, h1, h2.kept (gSet w b o u) (.inr (Ne.symm (own_ne h2 hb ht))), fun j hj => World.ownsRow.kept (h3 j hj) (gSet w b o u) (.inr (Ne.symm (own_ne (h3 j hj) hb hi)))⟩
theorem SetsM.push {W : World} {base : Nat} {v : Value} {L : List (List Pa)} (h : SetsM W base v L) {a : Option Addr} {n c : Nat} {ps : List Pa} (hp : OwnP W base (.slice a n c) ps) (hl : L.length ≤ 100000) (hb : base ≤ W.heap.size) :
  ∃ v' w', (Builtin.append_ #[79, 79] 79 #[v, .slice (some ⟨W.heap.size, 0, none⟩) 1 1]).run Tryz.prog (W.alloc (.cells #[.slice a n c] 86)) = .ok v' w' ∧ SetsM w' base v' (L ++ [ps]) ∧ Below base W w' ∧ (W.alloc (.cells #[.slice a n c] 86)).grownBy w' v.ownBlock := by
 obtain ⟨i1, hi1, hy0, hy1, hy2⟩ := info_parts infoSetC
 obtain ⟨ss, h1, h2, h3⟩ := h
 have hA : Below W.heap.size W (W.alloc (.cells #[.slice a n c] 86)) := (Below.refl _ _).alloc (Nat.le_refl _) _
 obtain ⟨v4, w4, r4, ho4, hg4, _⟩ := run_append_spot (P := Tryz.prog) (w := W.alloc (.cells (encL (a, n, c)).toArray 86)) encL_len (by decide) encL_one 79 79 base 86 i1 _ 24 Tryz.underlying79 hi1 hy0 hy1 hy2 rfl _ ss.length (ss.flatMap encL) (World.ownsRow.alloc h2 _) _ [(a, n, c)] (oneRow (enc := encL) W (a, n, c) rfl 86) (by simp; unfold maxLen; omega) (by simp; omega) (by simp; omega)
 have hkeep : ∀ v ps, OwnP W base v ps → OwnP w4 base v ps := fun v ps k => World.ownsRow.kept (OwnP.later k hA) hg4 (own_apart (OwnP.later k hA) (World.ownsRow.alloc h2 _) (by decide))
 refine ⟨v4, w4, r4, ⟨ss ++ [(a, n, c)], by simp [h1], by rw [List.length_append, List.flatMap_append]; exact ho4, fun j hj => ?_⟩, ((Below.refl _ _).alloc hb _).grown hg4 (by simp; omega) (own_geK h2), hg4⟩
 rw [List.length_append] at hj
 simp at hj
 by_cases e : j < L.length
 ·rw [el_left (by omega), el_left e]
  exact hkeep _ _ (h3 j e)
 ·obtain rfl : j = L.length := by omega
  have e1 : el (ss ++ [(a, n, c)]) L.length = (a, n, c) := by rw [← h1]; exact el_last _ _
  rw [e1, el_last]
  exact hkeep _ _ hp
end Go.Proofs.YtfhjncpakgailaaGreatDoor.Wt
