/- The program: container/heap's Push and Pop, at a heap of ways. -/
import Derived.Test.YtfpibdaedfilaaaFae
import Derived.Test.YtfpibdaedfilaaaFaa
import Derived.Test.YtfpibdaedfilaaaFad
namespace Go.Proofs.Ytfpibdaedfilaaa.Dw
open Go.ChangeShapes Go.WideShapes Go.ChangeAt Go.RowKit
open Go.Proofs.Ytfpibdaedfilaaa.Pl Go.Proofs.Ytfpibdaedfilaaa.Wt
set_option linter.unusedVariables false
set_option linter.unusedSimpArgs false
set_option maxRecDepth 100000 in
set_option maxHeartbeats 3200000 in
theorem whPush_any (B base : Nat) (v : Value) (hs : List Ar) (q : Ar) (w : World) (hB : Blk w B #[v] 117) (hown : w.ownsRow base 119 2 v hs.length (hs.flatMap encD)) (hbase : base ≤ w.heap.size) (hn : hs.length ≤ 9000000) (hH : HeapW hs hs.length) :
  Calls Try.prog 70 #[.iface 121 (.pointer (some ⟨B, 0, none⟩)), wayV q] w fun e w' => e = .returned (.tuple #[]) ∧ ∃ v' hs', HeapW hs' hs'.length ∧ hs'.Perm (hs ++ [q]) ∧ Blk w' B #[v'] 117 ∧ w'.ownsRow base 119 2 v' hs'.length (hs'.flatMap encD) ∧ Near w v.ownBlock v' ∧ Turn2 w w' B v.ownBlock := by
 have HP : Hid (Calls Try.prog 120 #[.pointer (some ⟨B, 0, none⟩), wayV q] w fun e w' => e = .returned (.tuple #[]) ∧ ∃ v', Blk w' B #[v'] 117 ∧ w'.ownsRow base 119 2 v' (hs ++ [q]).length ((hs ++ [q]).flatMap encD) ∧ Near w v.ownBlock v' ∧ Turn2 w w' B v.ownBlock) := wPush_any B base v hs q w hB hown hbase (by omega)
 have HU : Hid (UpW (hs ++ [q]) hs.length) := UpW.start hH q
 have HL : Hid ((hs ++ [q]).length = hs.length + 1) := by simp [Hid]
 have mP := methW_push B w
 generalize hs ++ [q] = hq at *
 generalize hs.length = n at *
 clear hB hown hH
 generalize v.ownBlock = r at *
 go_enter Try.func70, Try.ntmps70
 go_wp2_with (first
  | (go_at_call 120; (with_reducible refine HP.out.mono ?_); rintro e w1 ⟨rfl, v1, hb1, ho1, hn1, ht1⟩; obtain ⟨g1, cap1, hv1, _, _, _⟩ := own_someW ho1 (by rw [HL.out]; omega); subst hv1; rw [HL.out] at ho1 hb1 hn1; have HB1 : Hid (Blk w1 B #[.slice (some ⟨g1, 0, none⟩) (n + 1) cap1] 117) := hb1; have HO1 : Hid (w1.ownsRow base 119 2 (.slice (some ⟨g1, 0, none⟩) (n + 1) cap1) (n + 1) (hq.flatMap encD)) := ho1; have HN1 : Hid (Near w r (.slice (some ⟨g1, 0, none⟩) (n + 1) cap1)) := hn1; have HT1 : Hid (Turn2 w w1 B r) := ht1; have mN := methW_len (hb1.cell 0 (v := .slice (some ⟨g1, 0, none⟩) (n + 1) cap1) rfl); clear hb1 ho1 hn1 ht1)
  | (go_at_call 71; (with_reducible refine (wLen_any _ _ _ _).mono ?_); rintro e w2 ⟨rfl, rfl⟩)
  | (go_at_call 86; (with_reducible refine (wUp_any B base g1 (n + 1) cap1 hq n _ HB1.out HO1.out HL.out (by omega) HU.out (by omega)).mono ?_); rintro e w3 ⟨rfl, hs3, hh3, hp3, ho3, hb3, hg3⟩))
 go_end0
 have hl3 : hs3.length = n + 1 := by rw [hp3.length_eq]; exact HL.out
 refine ⟨rfl, _, hs3, by rw [hl3]; exact hh3, hp3, hb3, by rw [hl3]; exact ho3, HN1.out, HT1.out.trans (Turn2.grown hg3 B) ?_⟩
 rcases HN1.out with e | ⟨c, e, hc⟩
 ·exact .inl e
 ·exact .inr ⟨c, e, hc⟩
set_option maxRecDepth 100000 in
set_option maxHeartbeats 3200000 in
theorem whPop_any (B base : Nat) (v : Value) (hs : List Ar) (w : World) (hB : Blk w B #[v] 117) (hown : w.ownsRow base 119 2 v hs.length (hs.flatMap encD)) (h0 : 0 < hs.length) (hn : hs.length ≤ 9000000) (hH : HeapW hs hs.length) :
  Calls Try.prog 72 #[.iface 121 (.pointer (some ⟨B, 0, none⟩))] w fun e w' => ∃ x, e = .returned (wayV x) ∧ ∃ v' hs', HeapW hs' hs'.length ∧ (x :: hs').Perm hs ∧ (∀ y ∈ hs', x.2.2.2 ≤ y.2.2.2) ∧ Blk w' B #[v'] 117 ∧ w'.ownsRow base 119 2 v' hs'.length (hs'.flatMap encD) ∧ v'.ownBlock = v.ownBlock ∧ Turn2 w w' B v.ownBlock := by
 obtain ⟨n, hl⟩ : ∃ n, hs.length = n + 1 := ⟨hs.length - 1, by omega⟩
 rw [hl] at hown
 obtain ⟨g, cap, hv, _, _, _⟩ := own_someW hown (by omega)
 subst hv
 have HLN : Hid (hs.length = n + 1) := hl
 have HH : Hid (HeapW hs hs.length) := hH
 have mN := methW_len (hB.cell 0 (v := .slice (some ⟨g, 0, none⟩) (n + 1) cap) rfl)
 have mS := methW_swap (hB.cell 0 (v := .slice (some ⟨g, 0, none⟩) (n + 1) cap) rfl)
 have HSW : Hid (Calls Try.prog 118 #[.slice (some ⟨g, 0, none⟩) (n + 1) cap, .int .i64 0, .int .i64 (n : Int)] w fun e w' => e = .returned (.tuple #[]) ∧ w'.ownsRow base 119 2 (.slice (some ⟨g, 0, none⟩) (n + 1) cap) (n + 1) ((swpW hs 0 n).flatMap encD) ∧ Blk w' B #[.slice (some ⟨g, 0, none⟩) (n + 1) cap] 117 ∧ w.grownBy w' (some g)) := wkSwap (B := B) hown hB hl (by omega) (i := 0) (j := n) (by omega) (by omega)
 have HD : Hid (DownW (swpW hs 0 n) 0 n) := DownW.start hH hl
 have HLS : Hid ((swpW hs 0 n).length = n + 1) := by show _ = _; rw [swpW_length]; exact hl
 have mP := methW_pop B
 have h9 : n ≤ 9000000 := by omega
 clear hB hown hH hl hn h0
 generalize hsw : swpW hs 0 n = hq at *
 have HSQ : Hid (swpW hs 0 n = hq) := hsw
 clear hsw
 go_enter Try.func72, Try.ntmps72
 go_wp2_with (first
  | (go_at_call 71; (with_reducible refine (wLen_any _ _ _ _).mono ?_); rintro e w2 ⟨rfl, rfl⟩)
  | (go_at_call 118; (with_reducible refine HSW.out.mono ?_); rintro e w1 ⟨rfl, ho1, hb1, hg1⟩; have HO1 : Hid (w1.ownsRow base 119 2 (.slice (some ⟨g, 0, none⟩) (n + 1) cap) (n + 1) (hq.flatMap encD)) := ho1; have HB1 : Hid (Blk w1 B #[.slice (some ⟨g, 0, none⟩) (n + 1) cap] 117) := hb1; have HG1 : Hid (w2.grownBy w1 (some g)) := hg1; clear ho1 hb1 hg1)
  | (go_at_call 87; (with_reducible refine (wDown_any B base g (n + 1) cap n hq _ HB1.out HO1.out HLS.out (by omega) (by omega) HD.out).mono ?_); rintro e w3 ⟨⟨b3, rfl⟩, hs3, hh3, hp3, hd3, ho3, hb3, hg3⟩; have HO3 : Hid (w3.ownsRow base 119 2 (.slice (some ⟨g, 0, none⟩) (n + 1) cap) hs3.length (hs3.flatMap encD)) := (by show World.ownsRow _ _ _ _ _ _ _; rw [hp3.length_eq, HLS.out]; exact ho3); have HB3 : Hid (Blk w3 B #[.slice (some ⟨g, 0, none⟩) (n + 1) cap] 117) := hb3; have HG3 : Hid (w1.grownBy w3 (some g)) := hg3; have HF3 : Hid (HeapW hs3 n ∧ hs3.Perm hq ∧ hs3.drop n = hq.drop n) := ⟨hh3, hp3, hd3⟩; clear hh3 hp3 hd3 ho3 hb3 hg3)
  | (go_at_call 119; (with_reducible refine (wPop_any B base _ hs3 n _ HB3.out HO3.out (by rw [HF3.out.2.1.length_eq, HLS.out]) (by omega)).mono ?_); rintro e w4 ⟨rfl, v4, hb4, ho4, hr4, ht4⟩))
 have hpf := popW_facts HH.out HLN.out (by rw [HSQ.out]; exact HF3.out.2.1) (by rw [HSQ.out]; exact HF3.out.2.2) HF3.out.1
 have hl4 : (hs3.take n).length = n := by rw [List.length_take, HF3.out.2.1.length_eq, HLS.out]; omega
 go_ret
 refine ⟨_, rfl, v4, hs3.take n, by rw [hl4]; exact hpf.2.1, by rw [hpf.1]; exact hpf.2.2.1, by rw [hpf.1]; exact hpf.2.2.2, hb4, by rw [hl4]; exact ho4, hr4, ?_⟩
 exact (Turn2.grown (gTrans HG1.out HG3.out) B).trans ht4 (.inl rfl)
end Go.Proofs.Ytfpibdaedfilaaa.Dw
namespace Go.Proofs.Ytfpibdaedfilaaa.Pl
theorem pigeon : ∀ (n : Nat) (l : List Nat), l.Nodup → (∀ x ∈ l, x < n) → l.length ≤ n := by
  intro n
  induction n with
  | zero =>
    intro l _ h
    cases l with
    | nil => simp
    | cons a l => exact absurd (h a (by simp)) (Nat.not_lt_zero _)
  | succ n ih =>
    intro l hn h
    have h1 := ih (l.erase n) (hn.erase n) (fun x hx => by
      have h2 := h x (List.mem_of_mem_erase hx)
      have h3 : x ≠ n := fun e => by subst e; exact hn.not_mem_erase hx
      omega)
    rw [List.length_erase] at h1
    split at h1 <;> omega
end Go.Proofs.Ytfpibdaedfilaaa.Pl
namespace Go.Proofs.Ytfpibdaedfilaaa.Pl
set_option linter.unusedVariables false
set_option linter.unusedSimpArgs false
def lab (a : Int) : List Int := if a = 0 then [] else [a]
inductive Way (l : List St) (q : Nat) : List Int → List Int → Nat → Nat → Prop
 | nil : Way l q [] [] q 0
 | snoc {u v : List Int} {p c : Nat} (h : Way l q u v p c) {a : Ar} (ha : a ∈ (el l p).2) {t : Nat} (ht : a.2.2.2 = (t : Int)) : Way l q (u ++ lab a.1) (v ++ lab a.2.1) t (c + a.2.2.1.toNat)
def Costs (m : Mc) (x y : List Int) (c : Nat) : Prop := 0 ≤ m.1 ∧ ∃ p d, Way m.2 m.1.toNat x y p d ∧ p < m.2.length ∧ (el m.2 p).1 ≠ 1000000001 ∧ c = d + (el m.2 p).1.toNat
def LeastP (P : Nat → Prop) (c : Nat) : Prop := P c ∧ ∀ d, P d → c ≤ d
def WghAns (P : Nat → Prop) (n e : Int) : Prop := ((∀ c, ¬ P c) ∧ n = 1000000001 ∧ e = 0) ∨ ∃ c : Nat, LeastP P c ∧ ((c ≤ 1000000000 ∧ n = (c : Int) ∧ e = 0) ∨ (1000000000 < c ∧ n = 0 ∧ e = 4))
section
variable {E : Nat → Nat → Nat → Prop} {s : Nat}
inductive Run (E : Nat → Nat → Nat → Prop) (s : Nat) : Nat → Nat → Nat → Prop
 | nil : Run E s 0 s 0
 | step {n k c w j : Nat} (h : Run E s n k c) (e : E k w j) : Run E s (n + 1) j (c + w)
theorem Run.cost {W n k c : Nat} (h : Run E s n k c) (hW : ∀ k w j, E k w j → w ≤ W) : c ≤ n * W := by
  induction h with
  | nil => simp
  | step h e ih =>
    have := hW _ _ _ e
    rw [Nat.add_mul]
    omega
theorem Run.trans {n k c m j d : Nat} (h : Run E s n k c) (g : Run E k m j d) : Run E s (n + m) j (c + d) := by
 induction g with
 | nil => exact h
 | step g e ih => rw [← Nat.add_assoc, ← Nat.add_assoc]; exact ih.step e
theorem twice {f : Nat → Nat} {n N : Nat} (hf : ∀ i, i ≤ n → f i < N) (hn : N ≤ n) : ∃ i j, i < j ∧ j ≤ n ∧ f i = f j := by
 by_cases h : ∃ i j, i < j ∧ j ≤ n ∧ f i = f j
 ·exact h
 ·exfalso
  have hnd : ((List.range (n + 1)).map f).Nodup := by
   unfold List.Nodup
   rw [List.pairwise_map]
   refine List.Pairwise.imp_of_mem ?_ (List.pairwise_lt_range (n := n + 1))
   intro a b ha hb hab e
   rw [List.mem_range] at hb
   exact h ⟨a, b, hab, by omega, e⟩
  have := pigeon N _ hnd (fun x hx => by
   rw [List.mem_map] at hx
   obtain ⟨i, hi, rfl⟩ := hx
   rw [List.mem_range] at hi
   exact hf i (by omega))
  simp at this
  omega
end
def fitN (l : List Int) (i : Nat) (b : Int) : Option Nat := if b = 0 then some i else if i < l.length ∧ el l i = b then some (i + 1) else none
def idx (X Y q i j : Nat) : Nat := (q * (X + 1) + i) * (Y + 1) + j
def fitF (free : Bool) (y : List Int) (j : Nat) (b : Int) : Option Nat := if free = true then some j else fitN y j b
def Edge (l : List St) (x y : List Int) (free : Bool) (k w k' : Nat) : Prop :=
 ∃ q i j a t i' j', q < l.length ∧ i ≤ x.length ∧ j ≤ y.length ∧ a ∈ (el l q).2 ∧ a.2.2.2 = ((t : Nat) : Int) ∧ fitN x i a.1 = some i' ∧ fitF free y j a.2.1 = some j' ∧ k = idx x.length y.length q i j ∧ w = a.2.2.1.toNat ∧ k' = idx x.length y.length t i' j'
theorem arcN_takeR (l : List St) (k : Nat) : arcN (l.take k) ≤ arcN l := by
 conv => rhs; rw [← List.take_append_drop k l, arcN_append]
 omega
theorem small_ok {m : Mc} (h1 : m.2.length ≤ 100000) (h2 : arcN m.2 ≤ 100000) : okM m := ⟨by omega, fun j hj => by
 have h3 := arcN_take hj
 have h4 := arcN_takeR m.2 (j + 1)
 omega⟩
theorem right_parts {m : Mc} (h : faultM m = 0) : (-1 ≤ m.1 ∧ m.1 ≤ (m.2.length : Int) - 1) ∧ ∀ s ∈ m.2, stB m.2.length s = true := by
 have h1 := (faultM_zero h).2
 simp only [rangeB, Bool.and_eq_true, inB, decide_eq_true_eq, List.all_eq_true] at h1
 exact h1
theorem stB_fin {n : Nat} {s : St} (h : stB n s = true) : finB s.1 = true := by
 simp only [stB, Bool.and_eq_true] at h
 exact h.1
def noneI : Int := 1152921504606846976
def sumT : List Int → Nat
 | [] => 0
 | c :: l => c.toNat + sumT l
theorem el_setT {l : List Int} {q j : Nat} (hq : q < l.length) (x : Int) : el (l.set q x) j = if j = q then x else el l j := by
 by_cases h : j = q
 ·subst h; rw [if_pos rfl]; simp [el, hq]
 ·rw [if_neg h]; simp [el, List.getElem?_set, Ne.symm h]
structure CostT (l : List St) (x y : List Int) (free : Bool) (z : Int) (cs : List Int) : Prop where
 len : cs.length = l.length * (x.length + 1) * (y.length + 1)
 rng : ∀ k, k < cs.length → 0 ≤ el cs k ∧ el cs k ≤ noneI
 beg : 0 ≤ z → el cs (idx x.length y.length z.toNat 0 0) = 0
 run : ∀ k, k < cs.length → el cs k < noneI → 0 ≤ z ∧ ∃ n, Run (Edge l x y free) (idx x.length y.length z.toNat 0 0) n k (el cs k).toNat
theorem el_in {l : List St} {p : Nat} {a : Ar} (h : a ∈ (el l p).2) : p < l.length := by
 rcases Nat.lt_or_ge p l.length with g | g
 ·exact g
 ·have : el l p = default := by simp [el, g]
  rw [this] at h
  exact absurd h (by simp [default])
section
variable {E : Nat → Nat → Nat → Prop} {s : Nat}
theorem Run.parts {n k c : Nat} (h : Run E s n k c) : ∃ f g : Nat → Nat, f 0 = s ∧ f n = k ∧ g n = c ∧ (∀ i, i ≤ n → Run E s i (f i) (g i) ∧ ∃ d, Run E (f i) (n - i) k d ∧ g i + d = c) ∧ ∀ i j, i ≤ j → j ≤ n → g i ≤ g j := by
  induction h with
  | nil => exact ⟨fun _ => s, fun _ => 0, rfl, rfl, rfl, fun i hi => ⟨by rw [show i = 0 by omega]; exact .nil, 0, by rw [show i = 0 by omega]; exact .nil, rfl⟩, fun _ _ _ _ => Nat.le_refl _⟩
  | step h e ih =>
    rename_i n k c w j
    obtain ⟨f, g, f0, fn, gn, hf, hg⟩ := ih
    refine ⟨fun i => if i ≤ n then f i else j, fun i => if i ≤ n then g i else c + w, by simp [f0], if_neg (by omega), if_neg (by omega), fun i hi => ?_, fun a b hab hb => ?_⟩
    · by_cases q : i ≤ n
      · simp only [q, if_true]
        obtain ⟨h1, d, h2, h3⟩ := hf i q
        refine ⟨h1, d + w, ?_, by omega⟩
        have := h2.step e
        rwa [show n - i + 1 = n + 1 - i by omega] at this
      · obtain rfl : i = n + 1 := by omega
        simp only [q, if_false]
        exact ⟨h.step e, 0, by rw [Nat.sub_self]; exact .nil, by omega⟩
    · simp only
      by_cases qb : b ≤ n
      · rw [if_pos qb, if_pos (by omega)]; exact hg a b hab qb
      · rw [if_neg qb]
        by_cases qa : a ≤ n
        · rw [if_pos qa]
          have := hg a n qa (Nat.le_refl _)
          omega
        · rw [if_neg qa]; omega
theorem Run.cheap {N : Nat} (hs : s < N) (hE : ∀ k w j, E k w j → j < N) : ∀ {n k c : Nat}, Run E s n k c → ∃ m d, m < N ∧ d ≤ c ∧ Run E s m k d := by
  have key : ∀ b n k c, n < b → Run E s n k c → ∃ m d, m < N ∧ d ≤ c ∧ Run E s m k d := by
    intro b
    induction b with
    | zero => intro n k c hn; omega
    | succ b ih =>
      intro n k c hn h
      by_cases g : n < N
      · exact ⟨n, c, g, Nat.le_refl _, h⟩
      · obtain ⟨f, gg, f0, fn, gn, hf, hg⟩ := h.parts
        have hin : ∀ i, i ≤ n → f i < N := fun i hi => by
          have h1 := (hf i hi).1
          generalize gg i = y2 at h1
          generalize f i = y at h1
          cases h1 with
          | nil => exact hs
          | step _ e => exact hE _ _ _ e
        obtain ⟨i, j, hij, hj, e⟩ := twice hin (by omega)
        have h1 := (hf i (by omega)).1
        obtain ⟨_, d', h2, h3⟩ := hf j hj
        rw [← e] at h2
        have h4 := hg i j (by omega) hj
        obtain ⟨m, d, hm, hd, hr⟩ := ih _ _ _ (by omega) (h1.trans h2)
        exact ⟨m, d, hm, by omega, hr⟩
  exact fun {n k c} h => key (n + 1) n k c (by omega) h
theorem Run.head {n k c : Nat} (h : Run E s (n + 1) k c) : ∃ j w c', E s w j ∧ Run E j n k c' ∧ c = w + c' := by
  have key : ∀ {m k c}, Run E s m k c → ∀ n, m = n + 1 → ∃ j w c', E s w j ∧ Run E j n k c' ∧ c = w + c' := by
    intro m k c h
    induction h with
    | nil => intro n hn; omega
    | step h e ih =>
      rename_i m k c w j
      intro n hn
      obtain rfl : m = n := by omega
      cases m with
      | zero =>
        cases h with
        | nil => exact ⟨j, w, 0, e, .nil, by omega⟩
      | succ m =>
        obtain ⟨j', w', c', e', h', rfl⟩ := ih m rfl
        exact ⟨j', w', c' + w, e', h'.step e, by omega⟩
  exact key h n rfl
theorem Run.first {j w n k c : Nat} (e : E s w j) (h : Run E j n k c) : Run E s (n + 1) k (w + c) := by
 have h1 : Run E s 1 j (0 + w) := Run.nil.step e
 have := h1.trans h
 rwa [show 1 + n = n + 1 by omega, Nat.zero_add] at this
end
def ArcE (l : List St) (k w j : Nat) : Prop := ∃ a ∈ (el l k).2, a.2.2.2 = (j : Int) ∧ w = a.2.2.1.toNat
def FarC (z : Int) (l : List St) (q c : Nat) : Prop := 0 ≤ z ∧ ∃ n, Run (ArcE l) z.toNat n q c
def EndC (l : List St) (q c : Nat) : Prop := ∃ n p d, Run (ArcE l) q n p d ∧ p < l.length ∧ (el l p).1 ≠ 1000000001 ∧ c = d + (el l p).1.toNat
structure FarT (z : Int) (l : List St) (cs : List Int) : Prop where
 len : cs.length = l.length
 rng : ∀ q, q < l.length → 0 ≤ el cs q ∧ el cs q ≤ noneI
 run : ∀ q, q < l.length → el cs q < noneI → FarC z l q (el cs q).toNat
structure EndT (l : List St) (cs : List Int) : Prop where
 len : cs.length = l.length
 rng : ∀ q, q < l.length → 0 ≤ el cs q ∧ el cs q ≤ noneI
 run : ∀ q, q < l.length → el cs q < noneI → EndC l q (el cs q).toNat
theorem arcE_in {l : List St} {k w j : Nat} (h : ArcE l k w j) : k < l.length := by
 obtain ⟨a, ha, _⟩ := h
 exact el_in ha
theorem arcE_small {m : Mc} (h : faultM m = 0) {k w j : Nat} (e : ArcE m.2 k w j) : j < m.2.length ∧ w ≤ 1000000000 := by
 obtain ⟨a, ha, e1, rfl⟩ := e
 have h1 := (right_parts h).2 _ (el_mem (el_in ha))
 simp only [stB, Bool.and_eq_true, List.all_eq_true] at h1
 have h2 := h1.2 _ ha
 simp only [arcB, inB, Bool.and_eq_true, decide_eq_true_eq] at h2
 omega
def LstAns (P : Nat → Nat → Prop) (N : Nat) (vs : List Int) (e : Int) : Prop := (e = 0 ∧ vs.length = N ∧ ∀ q, q < N → WghAns (P q) (el vs q) 0) ∨ (e = 4 ∧ vs = [] ∧ ∃ q, q < N ∧ WghAns (P q) 0 4)
theorem fin_small {m : Mc} (hf : faultM m = 0) {p : Nat} (hp : p < m.2.length) (hn : (el m.2 p).1 ≠ 1000000001) : 0 ≤ (el m.2 p).1 ∧ (el m.2 p).1 ≤ 1000000000 := by
 have h1 := stB_fin ((right_parts hf).2 _ (el_mem hp))
 simp [finB, inB] at h1
 omega
def DstAns (m : Mc) (P : Nat → Nat → Prop) (vs : List Int) (ec : Int) : Prop := (faultM m ≠ 0 ∧ vs = [] ∧ ec = faultM m) ∨ (faultM m = 0 ∧ LstAns P m.2.length vs ec)
def LpaAns (m : Mc) (x e : Int) : Prop := ∃ vs f, DstAns m (EndC m.2) vs f ∧ ((f ≠ 0 ∧ x = 0 ∧ e = f) ∨ (f = 0 ∧ e = 0 ∧ x = if m.1 < 0 then 1000000001 else el vs m.1.toNat))
theorem DstAns.len {m : Mc} {P : Nat → Nat → Prop} {vs : List Int} (h : DstAns m P vs 0) : vs.length = m.2.length ∧ -1 ≤ m.1 ∧ m.1 ≤ (m.2.length : Int) - 1 := by
 rcases h with ⟨h0, h1, h2⟩ | ⟨h0, h1⟩
 ·exact absurd h2.symm h0
 ·rcases h1 with ⟨_, h2, _⟩ | ⟨h2, _⟩
  ·exact ⟨h2, (right_parts h0).1⟩
  ·exact absurd h2 (by decide)
end Go.Proofs.Ytfpibdaedfilaaa.Pl
namespace Go.Proofs.Ytfpibdaedfilaaa.Pl
def leL (a b : List Bool) : Prop := a.length = b.length ∧ ∀ j, j < a.length → el a j = true → el b j = true
theorem el_setB {l : List Bool} {q j : Nat} (hq : q < l.length) : el (l.set q true) j = if j = q then true else el l j := by
 by_cases h : j = q
 ·subst h; rw [if_pos rfl, el_get (by simpa using hq)]; simp
 ·rw [if_neg h]; simp [el, List.getElem?_set_ne (Ne.symm h)]
structure Pass (C : (Nat → Prop) → Prop) (n : Nat) (b0 bs : List Bool) (chk : Prop) : Prop where
 len : bs.length = n
 le : leL b0 bs
 sound : ∀ T, C T → ∀ q, q < n → el bs q = true → T q
 chk : bs = b0 → chk
structure Rounds (C : (Nat → Prop) → Prop) (n k : Nat) (bs : List Bool) : Prop where
 len : bs.length = n
 sound : ∀ T, C T → ∀ q, q < n → el bs q = true → T q
 more : C (fun q => el bs q = true) ∨ k ≤ bs.count true
theorem el_false {n j : Nat} : el (List.replicate n false) j = false := by
 unfold el
 rw [List.getElem?_replicate]
 split <;> rfl
def SpreadC (n : Nat) (F : List Int) (L : Nat → List Int) (T : Nat → Prop) : Prop := (∀ x ∈ F, T x.toNat) ∧ ∀ q, q < n → T q → ∀ y ∈ L q, T y.toNat
structure Dfs (n M K : Nat) (F : List Int) (L : Nat → List Int) (bs : List Bool) (ws : List Int) : Prop where
 len : bs.length = n
 inn : ∀ x ∈ ws, 0 ≤ x ∧ x < n
 sound : ∀ T, SpreadC n F L T → (∀ q, q < n → el bs q = true → T q) ∧ ∀ x ∈ ws, T x.toNat
 first : ∀ x ∈ F, el bs x.toNat = true ∨ x ∈ ws
 next : ∀ q, q < n → el bs q = true → ∀ y ∈ L q, el bs y.toNat = true ∨ y ∈ ws
 room : bs.count false * (M + 1) + ws.length ≤ K
section
variable {n M K : Nat} {F : List Int} {L : Nat → List Int} {bs : List Bool} {ws : List Int}
theorem count_set {q : Nat} (hq : q < bs.length) (hf : el bs q = false) : (bs.set q true).count false + 1 = bs.count false := by
  induction bs generalizing q with
  | nil => simp at hq
  | cons b l ih =>
    cases q with
    | zero =>
      rw [el_zero] at hf
      subst hf
      simp
    | succ q =>
      rw [el_succ] at hf
      have := ih (q := q) (by simpa using hq) hf
      rw [List.set_cons_succ, List.count_cons, List.count_cons]
      omega
end
end Go.Proofs.Ytfpibdaedfilaaa.Pl
namespace Go.Proofs.Ytfpibdaedfilaaa.Pl
set_option linter.unusedVariables false
set_option linter.unusedSimpArgs false
def wyD (p c : Nat) : Ar := ((p : Int), 0, 0, (c : Int))
theorem wyD_one {p q c d : Nat} (h : wyD p c = wyD q d) : p = q ∧ c = d := by
 simp only [wyD, Prod.mk.injEq, true_and] at h
 omega
inductive RchD (S : Nat → List Ar) (N : Nat) : Nat → Nat → Prop
 | nil : RchD S N N 0
 | step {q p c w : Nat} (h : RchD S N q c) (e : wyD p w ∈ S q) : RchD S N p (c + w)
def StpR (S : Nat → List Ar) (N : Nat) : Prop := ∀ q, q ≤ N → (S q).length ≤ 400 ∧ ∀ a ∈ S q, ∃ p w : Nat, a = wyD p w ∧ p < N ∧ w ≤ 1000000000
structure DijD (S : Nat → List Ar) (N : Nat) (D : Nat → Option Nat) (H : List Ar) (O : Nat → Nat → Prop) (b : Nat) : Prop where
 src : D N = some 0
 inn : ∀ q c, D q = some c → q ≤ N
 heap : ∀ h ∈ H, ∃ p c, h = wyD p c ∧ p < N ∧ RchD S N p c ∧ b ≤ c ∧ c ≤ 2000000000
 done : ∀ p c, D p = some c → RchD S N p c ∧ c ≤ b ∧ c ≤ 1000000000
 clos : ∀ q c, D q = some c → ∀ i, i < (S q).length → ¬ O q i → ∀ p w, el (S q) i = wyD p w → (∃ e, D p = some e ∧ e ≤ c + w) ∨ wyD p (c + w) ∈ H
def srcD (N : Nat) : Nat → Option Nat := fun q => if q = N then some 0 else none
def updD (D : Nat → Option Nat) (p c : Nat) : Nat → Option Nat := fun q => if q = p then some c else D q
section
variable {S : Nat → List Ar} {N : Nat} {D : Nat → Option Nat} {H H' : List Ar} {b : Nat}
theorem DijD.start : DijD S N (srcD N) [] (fun q i => q = N ∧ 0 ≤ i) 0 := by
 have h0 : ∀ {q c}, srcD N q = some c → q = N ∧ c = 0 := fun {q c} h => by
  unfold srcD at h
  split at h
  ·rename_i e; injection h with h; exact ⟨e, h.symm⟩
  ·cases h
 refine ⟨by simp [srcD], fun q c h => by have := h0 h; omega, fun h hh => (by cases hh), fun p c h => ?_, fun q c h i hi hO => absurd ⟨(h0 h).1, Nat.zero_le _⟩ hO⟩
 obtain ⟨rfl, rfl⟩ := h0 h
 exact ⟨.nil, Nat.le_refl _, by omega⟩
theorem popD_split {p c q e : Nat} (hp : (wyD p c :: H').Perm H) (hq : wyD q e ∈ H) : (q = p ∧ e = c) ∨ wyD q e ∈ H' := by
 rcases List.mem_cons.1 (hp.mem_iff.2 hq) with g | g
 ·exact .inl (wyD_one g)
 ·exact .inr g
theorem DijD.old (h : DijD S N D H (fun _ _ => False) b) {p c d : Nat} (hp : (wyD p c :: H').Perm H) (hd : D p = some d) : DijD S N D H' (fun _ _ => False) b := by
 obtain ⟨p', c', e0, _, _, hbc, _⟩ := h.heap (wyD p c) (hp.mem_iff.1 List.mem_cons_self)
 obtain ⟨rfl, rfl⟩ := wyD_one e0
 have hdb := (h.done p d hd).2.1
 refine ⟨h.src, h.inn, fun a ha => h.heap a (hp.mem_iff.1 (List.mem_cons_of_mem _ ha)), h.done, fun q e hq i hi hO p' w hw => ?_⟩
 rcases h.clos q e hq i hi hO p' w hw with g | g
 ·exact .inl g
 ·rcases popD_split hp g with ⟨rfl, g2⟩ | g
  ·exact .inl ⟨d, hd, by omega⟩
  ·exact .inr g
theorem DijD.new (h : DijD S N D H (fun _ _ => False) b) {p c : Nat} (hp : (wyD p c :: H').Perm H) (hmin : ∀ a ∈ H', (c : Int) ≤ a.2.2.2) (hd : D p = none) (hc : c ≤ 1000000000) : DijD S N (updD D p c) H' (fun q i => q = p ∧ 0 ≤ i) c := by
 obtain ⟨p', c', e0, hpN, hr, hbc, _⟩ := h.heap (wyD p c) (hp.mem_iff.1 List.mem_cons_self)
 obtain ⟨rfl, rfl⟩ := wyD_one e0
 have hu : ∀ {q e}, updD D p c q = some e → (q = p ∧ e = c) ∨ (q ≠ p ∧ D q = some e) := fun {q e} hq => by
  unfold updD at hq
  split at hq
  ·rename_i g; injection hq with hq; exact .inl ⟨g, hq.symm⟩
  ·rename_i g; exact .inr ⟨g, hq⟩
 refine ⟨?_, fun q e hq => ?_, fun a ha => ?_, fun q e hq => ?_, fun q e hq i hi hO p' w hw => ?_⟩
 ·unfold updD; rw [if_neg (by omega)]; exact h.src
 ·rcases hu hq with ⟨rfl, _⟩ | ⟨_, hq⟩
  ·omega
  ·exact h.inn q e hq
 ·obtain ⟨q, e, rfl, k0, k1, k2, k3⟩ := h.heap a (hp.mem_iff.1 (List.mem_cons_of_mem _ ha))
  have := hmin _ ha
  simp only [wyD] at this
  exact ⟨q, e, rfl, k0, k1, by omega, k3⟩
 ·rcases hu hq with ⟨rfl, rfl⟩ | ⟨_, hq⟩
  ·exact ⟨hr, Nat.le_refl _, hc⟩
  ·obtain ⟨k1, k2, k3⟩ := h.done q e hq
   exact ⟨k1, by omega, k3⟩
 ·rcases hu hq with ⟨rfl, rfl⟩ | ⟨hne, hq⟩
  ·exact absurd ⟨rfl, Nat.zero_le _⟩ hO
  ·rcases h.clos q e hq i hi id p' w hw with ⟨e', g1, g2⟩ | g
   ·refine .inl ⟨e', ?_, g2⟩
    unfold updD
    rw [if_neg (fun g => by rw [g, hd] at g1; cases g1)]
    exact g1
   ·rcases popD_split hp g with ⟨rfl, g2⟩ | g
    ·exact .inl ⟨c, by simp [updD], by omega⟩
    ·exact .inr g
theorem DijD.push (hS : StpR S N) {p c k : Nat} (h : DijD S N D H (fun q i => q = p ∧ k ≤ i) c) (hpc : D p = some c) (hk : k < (S p).length) {p' w : Nat} (hw : el (S p) k = wyD p' w) (hp : H'.Perm (H ++ [wyD p' (c + w)])) : DijD S N D H' (fun q i => q = p ∧ k + 1 ≤ i) c := by
 obtain ⟨k1, _, k3⟩ := h.done p c hpc
 have hm : wyD p' w ∈ S p := by rw [← hw]; exact el_mem hk
 obtain ⟨p2, w2, e2, hpN, hwl⟩ := (hS p (h.inn p c hpc)).2 _ hm
 obtain ⟨rfl, rfl⟩ := wyD_one e2
 have hmem : ∀ a, a ∈ H' ↔ a ∈ H ∨ a = wyD p' (c + w) := fun a => by rw [hp.mem_iff, List.mem_append, List.mem_singleton]
 refine ⟨h.src, h.inn, fun a ha => ?_, h.done, fun q e hq i hi hO r v hr => ?_⟩
 ·rcases (hmem a).1 ha with g | g
  ·exact h.heap a g
  ·exact ⟨p', c + w, g, hpN, k1.step hm, by omega, by omega⟩
 ·by_cases e1 : q = p ∧ k ≤ i
  ·obtain ⟨rfl, e2⟩ := e1
   have e3 : i = k := by
    by_cases e4 : k + 1 ≤ i
    ·exact absurd ⟨rfl, e4⟩ hO
    ·omega
   subst e3
   rw [hw] at hr
   obtain ⟨rfl, rfl⟩ := wyD_one hr
   rw [hpc] at hq
   injection hq with hq
   subst hq
   exact .inr ((hmem _).2 (.inr rfl))
  ·rcases h.clos q e hq i hi e1 r v hr with g | g
   ·exact .inl g
   ·exact .inr ((hmem _).2 (.inl g))
theorem DijD.skip {p c k : Nat} (h : DijD S N D H (fun q i => q = p ∧ k ≤ i) c) (hpc : D p = some c) {p' w e : Nat} (hw : el (S p) k = wyD p' w) (he : D p' = some e) : DijD S N D H (fun q i => q = p ∧ k + 1 ≤ i) c := by
 refine ⟨h.src, h.inn, h.heap, h.done, fun q d hq i hi hO r v hr => ?_⟩
 by_cases e1 : q = p ∧ k ≤ i
 ·obtain ⟨rfl, e2⟩ := e1
  have e3 : i = k := by
   by_cases e4 : k + 1 ≤ i
   ·exact absurd ⟨rfl, e4⟩ hO
   ·omega
  subst e3
  rw [hw] at hr
  obtain ⟨rfl, rfl⟩ := wyD_one hr
  rw [hpc] at hq
  injection hq with hq
  have := (h.done p' e he).2.1
  exact .inl ⟨e, he, by omega⟩
 ·exact h.clos q d hq i hi e1 r v hr
theorem DijD.all {p c k : Nat} (h : DijD S N D H (fun q i => q = p ∧ k ≤ i) c) (hk : (S p).length ≤ k) : DijD S N D H (fun _ _ => False) c :=
 ⟨h.src, h.inn, h.heap, h.done, fun q d hq i hi _ r v hr => h.clos q d hq i hi (fun g => by rw [g.1] at hi; omega) r v hr⟩
theorem DijD.told (hS : StpR S N) (h : DijD S N D H (fun _ _ => False) b) {c : Nat} (hmin : ∀ a ∈ H, (c : Int) ≤ a.2.2.2) {p d : Nat} (hr : RchD S N p d) : (∃ e, D p = some e ∧ e ≤ d) ∨ c ≤ d := by
  induction hr with
  | nil => exact .inl ⟨0, h.src, Nat.le_refl _⟩
  | step hr e ih =>
    rename_i q p d w
    rcases ih with ⟨e1, g1, g2⟩ | g
    · obtain ⟨i, hi, hii⟩ := mem_el e
      rcases h.clos q e1 g1 i hi id p w hii with ⟨e2, g3, g4⟩ | g3
      · exact .inl ⟨e2, g3, by omega⟩
      · have := hmin _ g3
        simp only [wyD] at this
        exact .inr (by omega)
    · exact .inr (by omega)
def cstD (D : Nat → Option Nat) (q : Nat) : Int := match D q with | some c => (c : Int) | none => 1000000001
theorem DijD.ans (hS : StpR S N) (h : DijD S N D [] (fun _ _ => False) b) {P : Nat → Nat → Prop} (hP : ∀ q c, q < N → (P q c ↔ RchD S N q c)) {cs : List Int} (hl : cs.length = N) (hc : ∀ q, q < N → el cs q = cstD D q) : LstAns P N cs 0 := by
  refine .inl ⟨rfl, hl, fun q hq => ?_⟩
  rw [hc q hq]
  unfold cstD
  cases hd : D q with
  | none =>
    refine .inl ⟨fun c hc => ?_, rfl, rfl⟩
    rcases h.told hS (c := c + 1) (fun a ha => by cases ha) ((hP q c hq).1 hc) with ⟨e, g, _⟩ | g
    · rw [hd] at g; cases g
    · omega
  | some c =>
    obtain ⟨k1, _, k3⟩ := h.done q c hd
    refine .inr ⟨c, ⟨(hP q c hq).2 k1, fun d hd2 => ?_⟩, .inl ⟨k3, rfl, rfl⟩⟩
    rcases h.told hS (c := d + 1) (fun a ha => by cases ha) ((hP q d hq).1 hd2) with ⟨e, g, g2⟩ | g
    · rw [hd] at g; injection g with g; omega
    · omega
theorem DijD.over (hS : StpR S N) (h : DijD S N D H (fun _ _ => False) b) {P : Nat → Nat → Prop} (hP : ∀ q c, q < N → (P q c ↔ RchD S N q c)) {p c : Nat} (hp : (wyD p c :: H').Perm H) (hmin : ∀ a ∈ H', (c : Int) ≤ a.2.2.2) (hd : D p = none) (hc : 1000000000 < c) : LstAns P N [] 4 := by
 obtain ⟨p', c', e0, hpN, hr, _, _⟩ := h.heap (wyD p c) (hp.mem_iff.1 List.mem_cons_self)
 obtain ⟨rfl, rfl⟩ := wyD_one e0
 refine .inr ⟨rfl, rfl, p, hpN, .inr ⟨c, ⟨(hP p c hpN).2 hr, fun d hd2 => ?_⟩, .inr ⟨hc, rfl, rfl⟩⟩⟩
 have hm : ∀ a ∈ H, (c : Int) ≤ a.2.2.2 := fun a ha => by
  rcases List.mem_cons.1 (hp.mem_iff.2 ha) with g | g
  ·rw [g]; exact Int.le_refl _
  ·exact hmin a g
 rcases h.told hS (c := c) hm ((hP p d hpN).1 hd2) with ⟨e, g, _⟩ | g
 ·rw [hd] at g; cases g
 ·exact g
def DonB (D : Nat → Option Nat) (bs : List Bool) (N : Nat) : Prop := bs.length = N ∧ ∀ q, q < N → el bs q = (D q).isSome
def DonC (D : Nat → Option Nat) (cs : List Int) (N : Nat) : Prop := cs.length = N ∧ ∀ q, q < N → el cs q = cstD D q
theorem DonB.start (N : Nat) : DonB (srcD N) (List.replicate N false) N :=
 ⟨by simp, fun q hq => by rw [el_false]; unfold srcD; rw [if_neg (by omega)]; rfl⟩
theorem DonC.start (N : Nat) {cs : List Int} (hl : cs.length = N) (h : ∀ q, q < N → el cs q = 1000000001) : DonC (srcD N) cs N :=
 ⟨hl, fun q hq => by rw [h q hq]; unfold cstD srcD; rw [if_neg (by omega)]⟩
theorem DonB.put {bs : List Bool} (h : DonB D bs N) {p : Nat} (hp : p < N) (c : Nat) : DonB (updD D p c) (bs.set p true) N := by
 refine ⟨by rw [List.length_set]; exact h.1, fun q hq => ?_⟩
 rw [el_setB (by rw [h.1]; exact hp)]
 unfold updD
 split
 ·rfl
 ·exact h.2 q hq
theorem DonC.put {cs : List Int} (h : DonC D cs N) {p : Nat} (hp : p < N) (c : Nat) : DonC (updD D p c) (cs.set p (c : Int)) N := by
 refine ⟨by rw [List.length_set]; exact h.1, fun q hq => ?_⟩
 rw [el_setT (by rw [h.1]; exact hp)]
 unfold cstD updD
 split
 ·rfl
 ·exact h.2 q hq
theorem DonB.none {bs : List Bool} (h : DonB D bs N) {p : Nat} (hp : p < N) (hf : el bs p = false) : D p = none := by
 have := h.2 p hp
 rw [hf] at this
 cases hd : D p with
 | none => rfl
 | some c => rw [hd] at this; simp at this
theorem DonB.some {bs : List Bool} (h : DonB D bs N) {p : Nat} (hp : p < N) (hf : el bs p = true) : ∃ c, D p = some c := by
 have := h.2 p hp
 rw [hf] at this
 cases hd : D p with
 | none => rw [hd] at this; simp at this
 | some c => exact ⟨c, rfl⟩
end
end Go.Proofs.Ytfpibdaedfilaaa.Pl
