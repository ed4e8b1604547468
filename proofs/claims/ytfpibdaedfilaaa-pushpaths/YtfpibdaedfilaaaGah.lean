/- The program: container/heap's Push and Pop, at a heap of ways. -/
import Derived.Test.YtfpibdaedfilaaaGag
import Derived.Test.YtfpibdaedfilaaaGae
import Derived.Test.YtfpibdaedfilaaaGad
import Derived.Test.YtfpibdaedfilaaaGaa
namespace Go.Proofs.Ytfpibdaedfilaaa.Dw
open Go.ChangeShapes Go.WideShapes Go.ChangeAt Go.RowKit
open Go.Proofs.Ytfpibdaedfilaaa.Pl Go.Proofs.Ytfpibdaedfilaaa.Wt
set_option linter.unusedVariables false
set_option linter.unusedSimpArgs false
set_option maxRecDepth 100000 in
set_option maxHeartbeats 3200000 in
theorem whPush_any (B base : Nat) (v : Value) (hs : List Ar) (q : Ar) (w : World) (hB : Blk w B #[v] 117) (hown : w.ownsRow base 119 2 v hs.length (hs.flatMap encD)) (hbase : base ≤ w.heap.size) (hn : hs.length ≤ 9000000) (hH : HeapW hs hs.length) :
  Calls Try.prog 70 #[.iface 121 (.pointer (some ⟨B, 0, none⟩)), wayV q] w fun e w' => e = .returned (.tuple #[]) ∧ ∃ v' hs', HeapW hs' hs'.length ∧ hs'.Perm (hs ++ [q]) ∧ Blk w' B #[v'] 117 ∧ w'.ownsRow base 119 2 v' hs'.length (hs'.flatMap encD) ∧ Near w v.ownBlock v' ∧ Turn2 w w' B v.ownBlock := by
 have HP : Hid (Calls Try.prog 120 #[.pointer (some ⟨B, 0, none⟩), wayV q] w fun e w' => e = .returned (.tuple #[]) ∧ ∃ v', Blk w' B #[v'] 117 ∧ w'.ownsRow base 119 2 v' (hs ++ [q]).length ((hs ++ [q]).flatMap encD) ∧ Near w v.ownBlock v' ∧ Turn2 w w' B v.ownBlock) := wPush_any B base v hs q w hB hown hbase (by omega)
 have HU : Hid (UpW (hs ++ [q]) hs.length) := UpW.start hH q
 have HL : Hid ((hs ++ [q]).length = hs.length + 1) := by simp [Hid]
 have mP := methW_push B w
 generalize hs ++ [q] = hq at *
 generalize hs.length = n at *
 clear hB hown hH
 generalize v.ownBlock = r at *
 go_enter Try.func70, Try.ntmps70
 go_wp2_with (first
  | (go_at_call 120; (with_reducible refine HP.out.mono ?_); rintro e w1 ⟨rfl, v1, hb1, ho1, hn1, ht1⟩; obtain ⟨g1, cap1, hv1, _, _, _⟩ := own_someW ho1 (by rw [HL.out]; omega); subst hv1; rw [HL.out] at ho1 hb1 hn1; have HB1 : Hid (Blk w1 B #[.slice (some ⟨g1, 0, none⟩) (n + 1) cap1] 117) := hb1; have HO1 : Hid (w1.ownsRow base 119 2 (.slice (some ⟨g1, 0, none⟩) (n + 1) cap1) (n + 1) (hq.flatMap encD)) := ho1; have HN1 : Hid (Near w r (.slice (some ⟨g1, 0, none⟩) (n + 1) cap1)) := hn1; have HT1 : Hid (Turn2 w w1 B r) := ht1; have mN := methW_len (hb1.cell 0 (v := .slice (some ⟨g1, 0, none⟩) (n + 1) cap1) rfl); clear hb1 ho1 hn1 ht1)
  | (go_at_call 71; (with_reducible refine (wLen_any _ _ _ _).mono ?_); rintro e w2 ⟨rfl, rfl⟩)
  | (go_at_call 86; (with_reducible refine (wUp_any B base g1 (n + 1) cap1 hq n _ HB1.out HO1.out HL.out (by omega) HU.out (by omega)).mono ?_); rintro e w3 ⟨rfl, hs3, hh3, hp3, ho3, hb3, hg3⟩))
 go_end0
 have hl3 : hs3.length = n + 1 := by rw [hp3.length_eq]; exact HL.out
 refine ⟨rfl, _, hs3, by rw [hl3]; exact hh3, hp3, hb3, by rw [hl3]; exact ho3, HN1.out, HT1.out.trans (Turn2.grown hg3 B) ?_⟩
 rcases HN1.out with e | ⟨c, e, hc⟩
 ·exact .inl e
 ·exact .inr ⟨c, e, hc⟩
set_option maxRecDepth 100000 in
set_option maxHeartbeats 3200000 in
theorem whPop_any (B base : Nat) (v : Value) (hs : List Ar) (w : World) (hB : Blk w B #[v] 117) (hown : w.ownsRow base 119 2 v hs.length (hs.flatMap encD)) (h0 : 0 < hs.length) (hn : hs.length ≤ 9000000) (hH : HeapW hs hs.length) :
  Calls Try.prog 72 #[.iface 121 (.pointer (some ⟨B, 0, none⟩))] w fun e w' => ∃ x, e = .returned (wayV x) ∧ ∃ v' hs', HeapW hs' hs'.length ∧ (x :: hs').Perm hs ∧ (∀ y ∈ hs', x.2.2.2 ≤ y.2.2.2) ∧ Blk w' B #[v'] 117 ∧ w'.ownsRow base 119 2 v' hs'.length (hs'.flatMap encD) ∧ v'.ownBlock = v.ownBlock ∧ Turn2 w w' B v.ownBlock := by
 obtain ⟨n, hl⟩ : ∃ n, hs.length = n + 1 := ⟨hs.length - 1, by omega⟩
 rw [hl] at hown
 obtain ⟨g, cap, hv, _, _, _⟩ := own_someW hown (by omega)
 subst hv
 have HLN : Hid (hs.length = n + 1) := hl
 have HH : Hid (HeapW hs hs.length) := hH
 have mN := methW_len (hB.cell 0 (v := .slice (some ⟨g, 0, none⟩) (n + 1) cap) rfl)
 have mS := methW_swap (hB.cell 0 (v := .slice (some ⟨g, 0, none⟩) (n + 1) cap) rfl)
 have HSW : Hid (Calls Try.prog 118 #[.slice (some ⟨g, 0, none⟩) (n + 1) cap, .int .i64 0, .int .i64 (n : Int)] w fun e w' => e = .returned (.tuple #[]) ∧ w'.ownsRow base 119 2 (.slice (some ⟨g, 0, none⟩) (n + 1) cap) (n + 1) ((swpW hs 0 n).flatMap encD) ∧ Blk w' B #[.slice (some ⟨g, 0, none⟩) (n + 1) cap] 117 ∧ w.grownBy w' (some g)) := wkSwap (B := B) hown hB hl (by omega) (i := 0) (j := n) (by omega) (by omega)
 have HD : Hid (DownW (swpW hs 0 n) 0 n) := DownW.start hH hl
 have HLS : Hid ((swpW hs 0 n).length = n + 1) := by show _ = _; rw [swpW_length]; exact hl
 have mP := methW_pop B
 have h9 : n ≤ 9000000 := by omega
 clear hB hown hH hl hn h0
 generalize hsw : swpW hs 0 n = hq at *
 have HSQ : Hid (swpW hs 0 n = hq) := hsw
 clear hsw
 go_enter Try.func72, Try.ntmps72
 go_wp2_with (first
  | (go_at_call 71; (with_reducible refine (wLen_any _ _ _ _).mono ?_); rintro e w2 ⟨rfl, rfl⟩)
  | (go_at_call 118; (with_reducible refine HSW.out.mono ?_); rintro e w1 ⟨rfl, ho1, hb1, hg1⟩; have HO1 : Hid (w1.ownsRow base 119 2 (.slice (some ⟨g, 0, none⟩) (n + 1) cap) (n + 1) (hq.flatMap encD)) := ho1; have HB1 : Hid (Blk w1 B #[.slice (some ⟨g, 0, none⟩) (n + 1) cap] 117) := hb1; have HG1 : Hid (w2.grownBy w1 (some g)) := hg1; clear ho1 hb1 hg1)
  | (go_at_call 87; (with_reducible refine (wDown_any B base g (n + 1) cap n hq _ HB1.out HO1.out HLS.out (by omega) (by omega) HD.out).mono ?_); rintro e w3 ⟨⟨b3, rfl⟩, hs3, hh3, hp3, hd3, ho3, hb3, hg3⟩; have HO3 : Hid (w3.ownsRow base 119 2 (.slice (some ⟨g, 0, none⟩) (n + 1) cap) hs3.length (hs3.flatMap encD)) := (by show World.ownsRow _ _ _ _ _ _ _; rw [hp3.length_eq, HLS.out]; exact ho3); have HB3 : Hid (Blk w3 B #[.slice (some ⟨g, 0, none⟩) (n + 1) cap] 117) := hb3; have HG3 : Hid (w1.grownBy w3 (some g)) := hg3; have HF3 : Hid (HeapW hs3 n ∧ hs3.Perm hq ∧ hs3.drop n = hq.drop n) := ⟨hh3, hp3, hd3⟩; clear hh3 hp3 hd3 ho3 hb3 hg3)
  | (go_at_call 119; (with_reducible refine (wPop_any B base _ hs3 n _ HB3.out HO3.out (by rw [HF3.out.2.1.length_eq, HLS.out]) (by omega)).mono ?_); rintro e w4 ⟨rfl, v4, hb4, ho4, hr4, ht4⟩))
 have hpf := popW_facts HH.out HLN.out (by rw [HSQ.out]; exact HF3.out.2.1) (by rw [HSQ.out]; exact HF3.out.2.2) HF3.out.1
 have hl4 : (hs3.take n).length = n := by rw [List.length_take, HF3.out.2.1.length_eq, HLS.out]; omega
 go_ret
 refine ⟨_, rfl, v4, hs3.take n, by rw [hl4]; exact hpf.2.1, by rw [hpf.1]; exact hpf.2.2.1, by rw [hpf.1]; exact hpf.2.2.2, hb4, by rw [hl4]; exact ho4, hr4, ?_⟩
 exact (Turn2.grown (gTrans HG1.out HG3.out) B).trans ht4 (.inl rfl)
end Go.Proofs.Ytfpibdaedfilaaa.Dw
namespace Go.Proofs.Ytfpibdaedfilaaa.Pl
set_option linter.unusedVariables false
set_option linter.unusedSimpArgs false
def lab (a : Int) : List Int := if a = 0 then [] else [a]
inductive Way (l : List St) (q : Nat) : List Int → List Int → Nat → Nat → Prop
 | nil : Way l q [] [] q 0
 | snoc {u v : List Int} {p c : Nat} (h : Way l q u v p c) {a : Ar} (ha : a ∈ (el l p).2) {t : Nat} (ht : a.2.2.2 = (t : Int)) : Way l q (u ++ lab a.1) (v ++ lab a.2.1) t (c + a.2.2.1.toNat)
def Costs (m : Mc) (x y : List Int) (c : Nat) : Prop := 0 ≤ m.1 ∧ ∃ p d, Way m.2 m.1.toNat x y p d ∧ p < m.2.length ∧ (el m.2 p).1 ≠ 1000000001 ∧ c = d + (el m.2 p).1.toNat
def LeastP (P : Nat → Prop) (c : Nat) : Prop := P c ∧ ∀ d, P d → c ≤ d
def WghAns (P : Nat → Prop) (n e : Int) : Prop := ((∀ c, ¬ P c) ∧ n = 1000000001 ∧ e = 0) ∨ ∃ c : Nat, LeastP P c ∧ ((c ≤ 1000000000 ∧ n = (c : Int) ∧ e = 0) ∨ (1000000000 < c ∧ n = 0 ∧ e = 4))
section
variable {E : Nat → Nat → Nat → Prop} {s : Nat}
inductive Run (E : Nat → Nat → Nat → Prop) (s : Nat) : Nat → Nat → Nat → Prop
 | nil : Run E s 0 s 0
 | step {n k c w j : Nat} (h : Run E s n k c) (e : E k w j) : Run E s (n + 1) j (c + w)
theorem Run.cost {W n k c : Nat} (h : Run E s n k c) (hW : ∀ k w j, E k w j → w ≤ W) : c ≤ n * W := by
  induction h with
  | nil => simp
  | step h e ih =>
    have := hW _ _ _ e
    rw [Nat.add_mul]
    omega
theorem Run.trans {n k c m j d : Nat} (h : Run E s n k c) (g : Run E k m j d) : Run E s (n + m) j (c + d) := by
 induction g with
 | nil => exact h
 | step g e ih => rw [← Nat.add_assoc, ← Nat.add_assoc]; exact ih.step e
theorem twice {f : Nat → Nat} {n N : Nat} (hf : ∀ i, i ≤ n → f i < N) (hn : N ≤ n) : ∃ i j, i < j ∧ j ≤ n ∧ f i = f j := by
 by_cases h : ∃ i j, i < j ∧ j ≤ n ∧ f i = f j
 ·exact h
 ·exfalso
  have hnd : ((List.range (n + 1)).map f).Nodup := by
   unfold List.Nodup
   rw [List.pairwise_map]
   refine List.Pairwise.imp_of_mem ?_ (List.pairwise_lt_range (n := n + 1))
   intro a b ha hb hab e
   rw [List.mem_range] at hb
   exact h ⟨a, b, hab, by omega, e⟩
  have := pigeon N _ hnd (fun x hx => by
   rw [List.mem_map] at hx
   obtain ⟨i, hi, rfl⟩ := hx
   rw [List.mem_range] at hi
   exact hf i (by omega))
  simp at this
  omega
end
def fitN (l : List Int) (i : Nat) (b : Int) : Option Nat := if b = 0 then some i else if i < l.length ∧ el l i = b then some (i + 1) else none
def idx (X Y q i j : Nat) : Nat := (q * (X + 1) + i) * (Y + 1) + j
def fitF (free : Bool) (y : List Int) (j : Nat) (b : Int) : Option Nat := if free = true then some j else fitN y j b
def Edge (l : List St) (x y : List Int) (free : Bool) (k w k' : Nat) : Prop :=
 ∃ q i j a t i' j', q < l.length ∧ i ≤ x.length ∧ j ≤ y.length ∧ a ∈ (el l q).2 ∧ a.2.2.2 = ((t : Nat) : Int) ∧ fitN x i a.1 = some i' ∧ fitF free y j a.2.1 = some j' ∧ k = idx x.length y.length q i j ∧ w = a.2.2.1.toNat ∧ k' = idx x.length y.length t i' j'
def noneI : Int := 1152921504606846976
def sumT : List Int → Nat
 | [] => 0
 | c :: l => c.toNat + sumT l
theorem el_setT {l : List Int} {q j : Nat} (hq : q < l.length) (x : Int) : el (l.set q x) j = if j = q then x else el l j := by
 by_cases h : j = q
 ·subst h; rw [if_pos rfl]; simp [el, hq]
 ·rw [if_neg h]; simp [el, List.getElem?_set, Ne.symm h]
structure CostT (l : List St) (x y : List Int) (free : Bool) (z : Int) (cs : List Int) : Prop where
 len : cs.length = l.length * (x.length + 1) * (y.length + 1)
 rng : ∀ k, k < cs.length → 0 ≤ el cs k ∧ el cs k ≤ noneI
 beg : 0 ≤ z → el cs (idx x.length y.length z.toNat 0 0) = 0
 run : ∀ k, k < cs.length → el cs k < noneI → 0 ≤ z ∧ ∃ n, Run (Edge l x y free) (idx x.length y.length z.toNat 0 0) n k (el cs k).toNat
theorem el_in {l : List St} {p : Nat} {a : Ar} (h : a ∈ (el l p).2) : p < l.length := by
 rcases Nat.lt_or_ge p l.length with g | g
 ·exact g
 ·have : el l p = default := by simp [el, g]
  rw [this] at h
  exact absurd h (by simp [default])
section
variable {E : Nat → Nat → Nat → Prop} {s : Nat}
theorem Run.parts {n k c : Nat} (h : Run E s n k c) : ∃ f g : Nat → Nat, f 0 = s ∧ f n = k ∧ g n = c ∧ (∀ i, i ≤ n → Run E s i (f i) (g i) ∧ ∃ d, Run E (f i) (n - i) k d ∧ g i + d = c) ∧ ∀ i j, i ≤ j → j ≤ n → g i ≤ g j := by
  induction h with
  | nil => exact ⟨fun _ => s, fun _ => 0, rfl, rfl, rfl, fun i hi => ⟨by rw [show i = 0 by omega]; exact .nil, 0, by rw [show i = 0 by omega]; exact .nil, rfl⟩, fun _ _ _ _ => Nat.le_refl _⟩
  | step h e ih =>
    rename_i n k c w j
    obtain ⟨f, g, f0, fn, gn, hf, hg⟩ := ih
    refine ⟨fun i => if i ≤ n then f i else j, fun i => if i ≤ n then g i else c + w, by simp [f0], if_neg (by omega), if_neg (by omega), fun i hi => ?_, fun a b hab hb => ?_⟩
    · by_cases q : i ≤ n
      · simp only [q, if_true]
        obtain ⟨h1, d, h2, h3⟩ := hf i q
        refine ⟨h1, d + w, ?_, by omega⟩
        have := h2.step e
        rwa [show n - i + 1 = n + 1 - i by omega] at this
      · obtain rfl : i = n + 1 := by omega
        simp only [q, if_false]
        exact ⟨h.step e, 0, by rw [Nat.sub_self]; exact .nil, by omega⟩
    · simp only
      by_cases qb : b ≤ n
      · rw [if_pos qb, if_pos (by omega)]; exact hg a b hab qb
      · rw [if_neg qb]
        by_cases qa : a ≤ n
        · rw [if_pos qa]
          have := hg a n qa (Nat.le_refl _)
          omega
        · rw [if_neg qa]; omega
theorem Run.cheap {N : Nat} (hs : s < N) (hE : ∀ k w j, E k w j → j < N) : ∀ {n k c : Nat}, Run E s n k c → ∃ m d, m < N ∧ d ≤ c ∧ Run E s m k d := by
  have key : ∀ b n k c, n < b → Run E s n k c → ∃ m d, m < N ∧ d ≤ c ∧ Run E s m k d := by
    intro b
    induction b with
    | zero => intro n k c hn; omega
    | succ b ih =>
      intro n k c hn h
      by_cases g : n < N
      · exact ⟨n, c, g, Nat.le_refl _, h⟩
      · obtain ⟨f, gg, f0, fn, gn, hf, hg⟩ := h.parts
        have hin : ∀ i, i ≤ n → f i < N := fun i hi => by
          have h1 := (hf i hi).1
          generalize gg i = y2 at h1
          generalize f i = y at h1
          cases h1 with
          | nil => exact hs
          | step _ e => exact hE _ _ _ e
        obtain ⟨i, j, hij, hj, e⟩ := twice hin (by omega)
        have h1 := (hf i (by omega)).1
        obtain ⟨_, d', h2, h3⟩ := hf j hj
        rw [← e] at h2
        have h4 := hg i j (by omega) hj
        obtain ⟨m, d, hm, hd, hr⟩ := ih _ _ _ (by omega) (h1.trans h2)
        exact ⟨m, d, hm, by omega, hr⟩
  exact fun {n k c} h => key (n + 1) n k c (by omega) h
theorem Run.head {n k c : Nat} (h : Run E s (n + 1) k c) : ∃ j w c', E s w j ∧ Run E j n k c' ∧ c = w + c' := by
  have key : ∀ {m k c}, Run E s m k c → ∀ n, m = n + 1 → ∃ j w c', E s w j ∧ Run E j n k c' ∧ c = w + c' := by
    intro m k c h
    induction h with
    | nil => intro n hn; omega
    | step h e ih =>
      rename_i m k c w j
      intro n hn
      obtain rfl : m = n := by omega
      cases m with
      | zero =>
        cases h with
        | nil => exact ⟨j, w, 0, e, .nil, by omega⟩
      | succ m =>
        obtain ⟨j', w', c', e', h', rfl⟩ := ih m rfl
        exact ⟨j', w', c' + w, e', h'.step e, by omega⟩
  exact key h n rfl
theorem Run.first {j w n k c : Nat} (e : E s w j) (h : Run E j n k c) : Run E s (n + 1) k (w + c) := by
 have h1 : Run E s 1 j (0 + w) := Run.nil.step e
 have := h1.trans h
 rwa [show 1 + n = n + 1 by omega, Nat.zero_add] at this
end
def ArcE (l : List St) (k w j : Nat) : Prop := ∃ a ∈ (el l k).2, a.2.2.2 = (j : Int) ∧ w = a.2.2.1.toNat
def FarC (z : Int) (l : List St) (q c : Nat) : Prop := 0 ≤ z ∧ ∃ n, Run (ArcE l) z.toNat n q c
def EndC (l : List St) (q c : Nat) : Prop := ∃ n p d, Run (ArcE l) q n p d ∧ p < l.length ∧ (el l p).1 ≠ 1000000001 ∧ c = d + (el l p).1.toNat
structure FarT (z : Int) (l : List St) (cs : List Int) : Prop where
 len : cs.length = l.length
 rng : ∀ q, q < l.length → 0 ≤ el cs q ∧ el cs q ≤ noneI
 run : ∀ q, q < l.length → el cs q < noneI → FarC z l q (el cs q).toNat
structure EndT (l : List St) (cs : List Int) : Prop where
 len : cs.length = l.length
 rng : ∀ q, q < l.length → 0 ≤ el cs q ∧ el cs q ≤ noneI
 run : ∀ q, q < l.length → el cs q < noneI → EndC l q (el cs q).toNat
theorem arcE_in {l : List St} {k w j : Nat} (h : ArcE l k w j) : k < l.length := by
 obtain ⟨a, ha, _⟩ := h
 exact el_in ha
theorem arcE_small {m : Mc} (h : faultM m = 0) {k w j : Nat} (e : ArcE m.2 k w j) : j < m.2.length ∧ w ≤ 1000000000 := by
 obtain ⟨a, ha, e1, rfl⟩ := e
 have h1 := (right_parts h).2 _ (el_mem (el_in ha))
 simp only [stB, Bool.and_eq_true, List.all_eq_true] at h1
 have h2 := h1.2 _ ha
 simp only [arcB, inB, Bool.and_eq_true, decide_eq_true_eq] at h2
 omega
def LstAns (P : Nat → Nat → Prop) (N : Nat) (vs : List Int) (e : Int) : Prop := (e = 0 ∧ vs.length = N ∧ ∀ q, q < N → WghAns (P q) (el vs q) 0) ∨ (e = 4 ∧ vs = [] ∧ ∃ q, q < N ∧ WghAns (P q) 0 4)
theorem fin_small {m : Mc} (hf : faultM m = 0) {p : Nat} (hp : p < m.2.length) (hn : (el m.2 p).1 ≠ 1000000001) : 0 ≤ (el m.2 p).1 ∧ (el m.2 p).1 ≤ 1000000000 := by
 have h1 := stB_fin ((right_parts hf).2 _ (el_mem hp))
 simp [finB, inB] at h1
 omega
def DstAns (m : Mc) (P : Nat → Nat → Prop) (vs : List Int) (ec : Int) : Prop := (faultM m ≠ 0 ∧ vs = [] ∧ ec = faultM m) ∨ (faultM m = 0 ∧ LstAns P m.2.length vs ec)
def LpaAns (m : Mc) (x e : Int) : Prop := ∃ vs f, DstAns m (EndC m.2) vs f ∧ ((f ≠ 0 ∧ x = 0 ∧ e = f) ∨ (f = 0 ∧ e = 0 ∧ x = if m.1 < 0 then 1000000001 else el vs m.1.toNat))
theorem DstAns.len {m : Mc} {P : Nat → Nat → Prop} {vs : List Int} (h : DstAns m P vs 0) : vs.length = m.2.length ∧ -1 ≤ m.1 ∧ m.1 ≤ (m.2.length : Int) - 1 := by
 rcases h with ⟨h0, h1, h2⟩ | ⟨h0, h1⟩
 ·exact absurd h2.symm h0
 ·rcases h1 with ⟨_, h2, _⟩ | ⟨h2, _⟩
  ·exact ⟨h2, (right_parts h0).1⟩
  ·exact absurd h2 (by decide)
end Go.Proofs.Ytfpibdaedfilaaa.Pl
namespace Go.Proofs.Ytfpibdaedfilaaa.Pl
def SpreadC (n : Nat) (F : List Int) (L : Nat → List Int) (T : Nat → Prop) : Prop := (∀ x ∈ F, T x.toNat) ∧ ∀ q, q < n → T q → ∀ y ∈ L q, T y.toNat
structure Dfs (n M K : Nat) (F : List Int) (L : Nat → List Int) (bs : List Bool) (ws : List Int) : Prop where
 len : bs.length = n
 inn : ∀ x ∈ ws, 0 ≤ x ∧ x < n
 sound : ∀ T, SpreadC n F L T → (∀ q, q < n → el bs q = true → T q) ∧ ∀ x ∈ ws, T x.toNat
 first : ∀ x ∈ F, el bs x.toNat = true ∨ x ∈ ws
 next : ∀ q, q < n → el bs q = true → ∀ y ∈ L q, el bs y.toNat = true ∨ y ∈ ws
 room : bs.count false * (M + 1) + ws.length ≤ K
section
variable {n M K : Nat} {F : List Int} {L : Nat → List Int} {bs : List Bool} {ws : List Int}
theorem Dfs.start (hF : ∀ x ∈ F, 0 ≤ x ∧ x < (n : Int)) (hK : n * (M + 1) + F.length ≤ K) : Dfs n M K F L (List.replicate n false) F :=
 ⟨by simp, hF, fun T hT => ⟨fun q _ e => absurd e (by rw [el_false]; simp), hT.1⟩, fun x hx => .inr hx, fun q _ e => absurd e (by rw [el_false]; simp), by rw [List.count_replicate]; simpa using hK⟩
theorem mem_last {k : Nat} {x : Int} (hk : ws.length = k + 1) : x ∈ ws ↔ x ∈ ws.take k ∨ x = el ws k := by
 have h := take_el (l := ws) (k := k) (by omega)
 rw [← hk, List.take_length] at h
 conv => lhs; rw [h]
 simp
theorem Dfs.skip (h : Dfs n M K F L bs ws) {k : Nat} (hk : ws.length = k + 1) (hf : el bs (el ws k).toNat = true) : Dfs n M K F L bs (ws.take k) := by
 refine ⟨h.len, fun x hx => h.inn x ((mem_last hk).2 (.inl hx)), fun T hT => ⟨(h.sound T hT).1, fun x hx => (h.sound T hT).2 x ((mem_last hk).2 (.inl hx))⟩, fun x hx => ?_, fun q hq e y hy => ?_, ?_⟩
 ·rcases h.first x hx with h1 | h1
  ·exact .inl h1
  ·rcases (mem_last hk).1 h1 with h2 | h2
   ·exact .inr h2
   ·exact .inl (by rw [h2]; exact hf)
 ·rcases h.next q hq e y hy with h1 | h1
  ·exact .inl h1
  ·rcases (mem_last hk).1 h1 with h2 | h2
   ·exact .inr h2
   ·exact .inl (by rw [h2]; exact hf)
 ·have := h.room
  rw [List.length_take]
  omega
theorem count_set {q : Nat} (hq : q < bs.length) (hf : el bs q = false) : (bs.set q true).count false + 1 = bs.count false := by
  induction bs generalizing q with
  | nil => simp at hq
  | cons b l ih =>
    cases q with
    | zero =>
      rw [el_zero] at hf
      subst hf
      simp
    | succ q =>
      rw [el_succ] at hf
      have := ih (q := q) (by simpa using hq) hf
      rw [List.set_cons_succ, List.count_cons, List.count_cons]
      omega
theorem Dfs.step (h : Dfs n M K F L bs ws) {k q : Nat} (hk : ws.length = k + 1) (hx : el ws k = (q : Int)) (hf : el bs q = false) (hL : ∀ y ∈ L q, 0 ≤ y ∧ y < (n : Int)) (hM : (L q).length ≤ M) : Dfs n M K F L (bs.set q true) (ws.take k ++ L q) := by
 have hin := h.inn (el ws k) (el_mem (by omega))
 have hq : q < n := by omega
 have hqb : q < bs.length := by rw [h.len]; exact hq
 refine ⟨by simpa using h.len, fun x hx' => ?_, fun T hT => ?_, fun x hx' => ?_, fun p hp e y hy => ?_, ?_⟩
 ·rcases List.mem_append.1 hx' with h1 | h1
  ·exact h.inn x ((mem_last hk).2 (.inl h1))
  ·exact hL x h1
 ·have hTq : T q := by
   have := (h.sound T hT).2 (el ws k) (el_mem (by omega))
   rw [hx] at this
   simpa using this
  refine ⟨fun p hp e => ?_, fun x hx' => ?_⟩
  ·rw [el_setB hqb] at e
   split at e
   ·rename_i e9; subst e9; exact hTq
   ·exact (h.sound T hT).1 p hp e
  ·rcases List.mem_append.1 hx' with h1 | h1
   ·exact (h.sound T hT).2 x ((mem_last hk).2 (.inl h1))
   ·exact hT.2 q hq hTq x h1
 ·rw [el_setB hqb]
  split
  ·exact .inl rfl
  ·rename_i e9
   rcases h.first x hx' with h1 | h1
   ·exact .inl h1
   ·rcases (mem_last hk).1 h1 with h2 | h2
    ·exact .inr (List.mem_append.2 (.inl h2))
    ·exact absurd (by rw [h2, hx]; simp) e9
 ·rw [el_setB hqb] at e ⊢
  split
  ·exact .inl rfl
  ·rename_i e9
   split at e
   ·rename_i e8; subst e8; exact .inr (List.mem_append.2 (.inr hy))
   ·rcases h.next p hp e y hy with h1 | h1
    ·exact .inl h1
    ·rcases (mem_last hk).1 h1 with h2 | h2
     ·exact .inr (List.mem_append.2 (.inl h2))
     ·exact absurd (by rw [h2, hx]; simp) e9
 ·have h1 := h.room
  have h2 := count_set hqb hf
  rw [← h2] at h1
  rw [List.length_append, List.length_take]
  rw [Nat.add_mul] at h1
  omega
theorem Dfs.done (h : Dfs n M K F L bs []) : Least (SpreadC n F L) n bs := by
 refine ⟨h.len, ⟨fun x hx => ?_, fun q hq e y hy => ?_⟩, fun T hT => (h.sound T hT).1⟩
 ·rcases h.first x hx with h1 | h1
  ·exact h1
  ·simp at h1
 ·rcases h.next q hq e y hy with h1 | h1
  ·exact h1
  ·simp at h1
theorem Least.iff {C D : (Nat → Prop) → Prop} {bs : List Bool} (h : Least C n bs) (hCD : ∀ T, C T ↔ D T) : Least D n bs := ⟨h.1, (hCD _).1 h.2.1, fun T hT => h.2.2 T ((hCD T).2 hT)⟩
end
def toL (l : List St) (q : Nat) : List Int := (el l q).2.map fun a => a.2.2.2
def startL (z : Int) : List Int := if z < 0 then [] else [z]
theorem ahead_spread {z : Int} {l : List St} (hz : z < l.length) (T : Nat → Prop) : SpreadC l.length (startL z) (toL l) T ↔ AheadC z l T := by
 unfold SpreadC AheadC startL toL
 constructor
 ·rintro ⟨h1, h2⟩
  refine ⟨fun q hq e => ?_, fun q hq e a ha => h2 q hq e _ (List.mem_map.2 ⟨a, ha, rfl⟩)⟩
  have := h1 z (by rw [if_neg (by omega)]; simp)
  rw [← e] at this
  simpa using this
 ·rintro ⟨h1, h2⟩
  refine ⟨fun x hx => ?_, fun q hq e y hy => ?_⟩
  ·split at hx
   ·simp at hx
   ·simp at hx
    subst hx
    exact h1 _ (by omega) (by omega)
  ·obtain ⟨a, ha, rfl⟩ := List.mem_map.1 hy
   exact h2 q hq e a ha
def endL (l : List St) (n : Nat) : List Int := ((List.range n).filter fun q => decide ((el l q).1 ≠ 1000000001)).map fun q : Nat => (q : Int)
theorem endL_succ (l : List St) (n : Nat) : endL l (n + 1) = endL l n ++ (if (el l n).1 ≠ 1000000001 then [(n : Int)] else []) := by
 unfold endL
 rw [List.range_succ, List.filter_append, List.map_append]
 by_cases h : (el l n).1 = 1000000001 <;> simp [h]
theorem endL_le (l : List St) (n : Nat) : (endL l n).length ≤ n := by
 unfold endL
 rw [List.length_map]
 exact Nat.le_trans (List.length_filter_le _ _) (by simp)
theorem endL_mem {l : List St} {n : Nat} {x : Int} : x ∈ endL l n ↔ ∃ q : Nat, x = (q : Int) ∧ q < n ∧ (el l q).1 ≠ 1000000001 := by
 unfold endL
 simp only [List.mem_map, List.mem_filter, List.mem_range, decide_eq_true_eq]
 constructor
 ·rintro ⟨q, ⟨h1, h2⟩, rfl⟩; exact ⟨q, rfl, h1, h2⟩
 ·rintro ⟨q, rfl, h1, h2⟩; exact ⟨q, ⟨h1, h2⟩, rfl⟩
def putT (t q : Nat) (f : Nat → List Int) : Nat → List Int := fun p => if p = t then f p ++ [(q : Int)] else f p
def fillA (q : Nat) (ar : List Ar) (f : Nat → List Int) : Nat → List Int := ar.foldl (fun f a => putT a.2.2.2.toNat q f) f
def fillS (l : List St) (n : Nat) : Nat → List Int := (List.range n).foldl (fun f q => fillA q (el l q).2 f) (fun _ => [])
theorem fillS_succ (l : List St) (n : Nat) : fillS l (n + 1) = fillA n (el l n).2 (fillS l n) := by
 unfold fillS
 rw [List.range_succ, List.foldl_append]
 rfl
theorem fillA_take (q : Nat) {ar : List Ar} {k : Nat} (h : k < ar.length) (f : Nat → List Int) : fillA q (ar.take (k + 1)) f = putT (el ar k).2.2.2.toNat q (fillA q (ar.take k) f) := by
 unfold fillA
 rw [take_el h, List.foldl_append]
 rfl
theorem fillA_mem {q : Nat} {ar : List Ar} {f : Nat → List Int} {p : Nat} {x : Int} : x ∈ fillA q ar f p ↔ x ∈ f p ∨ (x = (q : Int) ∧ ∃ a ∈ ar, a.2.2.2.toNat = p) := by
  induction ar generalizing f with
  | nil => simp [fillA]
  | cons a ar ih =>
    have : fillA q (a :: ar) f = fillA q ar (putT a.2.2.2.toNat q f) := rfl
    rw [this, ih]
    unfold putT
    by_cases e : p = a.2.2.2.toNat
    · rw [if_pos e]
      simp only [List.mem_append, List.mem_cons, List.not_mem_nil, or_false]
      constructor
      · rintro ((h | h) | ⟨h1, b, hb, h2⟩)
        · exact .inl h
        · exact .inr ⟨h, a, .inl rfl, e.symm⟩
        · exact .inr ⟨h1, b, .inr hb, h2⟩
      · rintro (h | ⟨h1, b, hb | hb, h2⟩)
        · exact .inl (.inl h)
        · exact .inl (.inr h1)
        · exact .inr ⟨h1, b, hb, h2⟩
    · rw [if_neg e]
      simp only [List.mem_cons]
      constructor
      · rintro (h | ⟨h1, b, hb, h2⟩)
        · exact .inl h
        · exact .inr ⟨h1, b, .inr hb, h2⟩
      · rintro (h | ⟨h1, b, hb | hb, h2⟩)
        · exact .inl h
        · subst hb; exact absurd h2.symm e
        · exact .inr ⟨h1, b, hb, h2⟩
theorem fillS_mem {l : List St} {n p : Nat} {x : Int} : x ∈ fillS l n p ↔ ∃ q : Nat, x = (q : Int) ∧ q < n ∧ ∃ a ∈ (el l q).2, a.2.2.2.toNat = p := by
  induction n with
  | zero => simp [fillS]
  | succ n ih =>
    rw [fillS_succ, fillA_mem, ih]
    constructor
    · rintro (⟨q, h1, h2, h3⟩ | ⟨h1, h2⟩)
      · exact ⟨q, h1, by omega, h3⟩
      · exact ⟨n, h1, by omega, h2⟩
    · rintro ⟨q, h1, h2, h3⟩
      by_cases e : q = n
      · subst e; exact .inr ⟨h1, h3⟩
      · exact .inl ⟨q, h1, by omega, h3⟩
theorem fillA_len (q : Nat) (ar : List Ar) (f : Nat → List Int) (p : Nat) : (fillA q ar f p).length ≤ (f p).length + ar.length := by
  induction ar generalizing f with
  | nil => simp [fillA]
  | cons a ar ih =>
    have : fillA q (a :: ar) f = fillA q ar (putT a.2.2.2.toNat q f) := rfl
    rw [this]
    have := ih (f := putT a.2.2.2.toNat q f)
    unfold putT at this ⊢
    simp only [List.length_cons]
    split at this <;> simp at this ⊢ <;> omega
theorem fillS_len (l : List St) (n p : Nat) (hn : n ≤ l.length) : (fillS l n p).length ≤ arcN (l.take n) := by
  induction n with
  | zero => simp [fillS]
  | succ n ih =>
    rw [fillS_succ, arcN_take (by omega)]
    have := fillA_len n (el l n).2 (fillS l n) p
    have := ih (by omega)
    omega
theorem back_spread {l : List St} (ht : ∀ q, q < l.length → ∀ a ∈ (el l q).2, ∃ t : Nat, a.2.2.2 = (t : Int) ∧ t < l.length) (T : Nat → Prop) : SpreadC l.length (endL l l.length) (fillS l l.length) T ↔ BackC l T := by
 unfold SpreadC BackC
 constructor
 ·rintro ⟨h1, h2⟩
  refine ⟨fun q hq e => ?_, fun q hq a ha e => ?_⟩
  ·simpa using h1 (q : Int) (endL_mem.2 ⟨q, rfl, hq, e⟩)
  ·obtain ⟨t, h3, h4⟩ := ht q hq a ha
   rw [h3] at e
   simp only [Int.toNat_natCast] at e
   simpa using h2 t h4 e (q : Int) (fillS_mem.2 ⟨q, rfl, hq, a, ha, by rw [h3]; simp⟩)
 ·rintro ⟨h1, h2⟩
  refine ⟨fun x hx => ?_, fun p hp e y hy => ?_⟩
  ·obtain ⟨q, rfl, hq, e⟩ := endL_mem.1 hx
   simpa using h1 q hq e
  ·obtain ⟨q, rfl, hq, a, ha, h3⟩ := fillS_mem.1 hy
   simpa using h2 q hq a ha (by rw [h3]; exact e)
end Go.Proofs.Ytfpibdaedfilaaa.Pl
