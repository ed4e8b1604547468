/- The program: container/heap's Push and Pop, at a heap of ways. -/
import Derived.Test.YtfpibdaedfilaaaHae
import Derived.Test.YtfpibdaedfilaaaHaa
namespace Go.Proofs.Ytfpibdaedfilaaa.Dw
open Go.ChangeShapes Go.WideShapes Go.ChangeAt Go.RowKit
open Go.Proofs.Ytfpibdaedfilaaa.Pl Go.Proofs.Ytfpibdaedfilaaa.Wt
set_option linter.unusedVariables false
set_option linter.unusedSimpArgs false
set_option maxRecDepth 100000 in
set_option maxHeartbeats 3200000 in
theorem whPush_any (B base : Nat) (v : Value) (hs : List Ar) (q : Ar) (w : World) (hB : Blk w B #[v] 117) (hown : w.ownsRow base 119 2 v hs.length (hs.flatMap encD)) (hbase : base ≤ w.heap.size) (hn : hs.length ≤ 9000000) (hH : HeapW hs hs.length) :
  Calls Try.prog 70 #[.iface 121 (.pointer (some ⟨B, 0, none⟩)), wayV q] w fun e w' => e = .returned (.tuple #[]) ∧ ∃ v' hs', HeapW hs' hs'.length ∧ hs'.Perm (hs ++ [q]) ∧ Blk w' B #[v'] 117 ∧ w'.ownsRow base 119 2 v' hs'.length (hs'.flatMap encD) ∧ Near w v.ownBlock v' ∧ Turn2 w w' B v.ownBlock := by
 have HP : Hid (Calls Try.prog 120 #[.pointer (some ⟨B, 0, none⟩), wayV q] w fun e w' => e = .returned (.tuple #[]) ∧ ∃ v', Blk w' B #[v'] 117 ∧ w'.ownsRow base 119 2 v' (hs ++ [q]).length ((hs ++ [q]).flatMap encD) ∧ Near w v.ownBlock v' ∧ Turn2 w w' B v.ownBlock) := wPush_any B base v hs q w hB hown hbase (by omega)
 have HU : Hid (UpW (hs ++ [q]) hs.length) := UpW.start hH q
 have HL : Hid ((hs ++ [q]).length = hs.length + 1) := by simp [Hid]
 have mP := methW_push B w
 generalize hs ++ [q] = hq at *
 generalize hs.length = n at *
 clear hB hown hH
 generalize v.ownBlock = r at *
 go_enter Try.func70, Try.ntmps70
 go_wp2_with (first
  | (go_at_call 120; (with_reducible refine HP.out.mono ?_); rintro e w1 ⟨rfl, v1, hb1, ho1, hn1, ht1⟩; obtain ⟨g1, cap1, hv1, _, _, _⟩ := own_someW ho1 (by rw [HL.out]; omega); subst hv1; rw [HL.out] at ho1 hb1 hn1; have HB1 : Hid (Blk w1 B #[.slice (some ⟨g1, 0, none⟩) (n + 1) cap1] 117) := hb1; have HO1 : Hid (w1.ownsRow base 119 2 (.slice (some ⟨g1, 0, none⟩) (n + 1) cap1) (n + 1) (hq.flatMap encD)) := ho1; have HN1 : Hid (Near w r (.slice (some ⟨g1, 0, none⟩) (n + 1) cap1)) := hn1; have HT1 : Hid (Turn2 w w1 B r) := ht1; have mN := methW_len (hb1.cell 0 (v := .slice (some ⟨g1, 0, none⟩) (n + 1) cap1) rfl); clear hb1 ho1 hn1 ht1)
  | (go_at_call 71; (with_reducible refine (wLen_any _ _ _ _).mono ?_); rintro e w2 ⟨rfl, rfl⟩)
  | (go_at_call 86; (with_reducible refine (wUp_any B base g1 (n + 1) cap1 hq n _ HB1.out HO1.out HL.out (by omega) HU.out (by omega)).mono ?_); rintro e w3 ⟨rfl, hs3, hh3, hp3, ho3, hb3, hg3⟩))
 go_end0
 have hl3 : hs3.length = n + 1 := by rw [hp3.length_eq]; exact HL.out
 refine ⟨rfl, _, hs3, by rw [hl3]; exact hh3, hp3, hb3, by rw [hl3]; exact ho3, HN1.out, HT1.out.trans (Turn2.grown hg3 B) ?_⟩
 rcases HN1.out with e | ⟨c, e, hc⟩
 ·exact .inl e
 ·exact .inr ⟨c, e, hc⟩
set_option maxRecDepth 100000 in
set_option maxHeartbeats 3200000 in
theorem whPop_any (B base : Nat) (v : Value) (hs : List Ar) (w : World) (hB : Blk w B #[v] 117) (hown : w.ownsRow base 119 2 v hs.length (hs.flatMap encD)) (h0 : 0 < hs.length) (hn : hs.length ≤ 9000000) (hH : HeapW hs hs.length) :
  Calls Try.prog 72 #[.iface 121 (.pointer (some ⟨B, 0, none⟩))] w fun e w' => ∃ x, e = .returned (wayV x) ∧ ∃ v' hs', HeapW hs' hs'.length ∧ (x :: hs').Perm hs ∧ (∀ y ∈ hs', x.2.2.2 ≤ y.2.2.2) ∧ Blk w' B #[v'] 117 ∧ w'.ownsRow base 119 2 v' hs'.length (hs'.flatMap encD) ∧ v'.ownBlock = v.ownBlock ∧ Turn2 w w' B v.ownBlock := by
 obtain ⟨n, hl⟩ : ∃ n, hs.length = n + 1 := ⟨hs.length - 1, by omega⟩
 rw [hl] at hown
 obtain ⟨g, cap, hv, _, _, _⟩ := own_someW hown (by omega)
 subst hv
 have HLN : Hid (hs.length = n + 1) := hl
 have HH : Hid (HeapW hs hs.length) := hH
 have mN := methW_len (hB.cell 0 (v := .slice (some ⟨g, 0, none⟩) (n + 1) cap) rfl)
 have mS := methW_swap (hB.cell 0 (v := .slice (some ⟨g, 0, none⟩) (n + 1) cap) rfl)
 have HSW : Hid (Calls Try.prog 118 #[.slice (some ⟨g, 0, none⟩) (n + 1) cap, .int .i64 0, .int .i64 (n : Int)] w fun e w' => e = .returned (.tuple #[]) ∧ w'.ownsRow base 119 2 (.slice (some ⟨g, 0, none⟩) (n + 1) cap) (n + 1) ((swpW hs 0 n).flatMap encD) ∧ Blk w' B #[.slice (some ⟨g, 0, none⟩) (n + 1) cap] 117 ∧ w.grownBy w' (some g)) := wkSwap (B := B) hown hB hl (by omega) (i := 0) (j := n) (by omega) (by omega)
 have HD : Hid (DownW (swpW hs 0 n) 0 n) := DownW.start hH hl
 have HLS : Hid ((swpW hs 0 n).length = n + 1) := by show _ = _; rw [swpW_length]; exact hl
 have mP := methW_pop B
 have h9 : n ≤ 9000000 := by omega
 clear hB hown hH hl hn h0
 generalize hsw : swpW hs 0 n = hq at *
 have HSQ : Hid (swpW hs 0 n = hq) := hsw
 clear hsw
 go_enter Try.func72, Try.ntmps72
 go_wp2_with (first
  | (go_at_call 71; (with_reducible refine (wLen_any _ _ _ _).mono ?_); rintro e w2 ⟨rfl, rfl⟩)
  | (go_at_call 118; (with_reducible refine HSW.out.mono ?_); rintro e w1 ⟨rfl, ho1, hb1, hg1⟩; have HO1 : Hid (w1.ownsRow base 119 2 (.slice (some ⟨g, 0, none⟩) (n + 1) cap) (n + 1) (hq.flatMap encD)) := ho1; have HB1 : Hid (Blk w1 B #[.slice (some ⟨g, 0, none⟩) (n + 1) cap] 117) := hb1; have HG1 : Hid (w2.grownBy w1 (some g)) := hg1; clear ho1 hb1 hg1)
  | (go_at_call 87; (with_reducible refine (wDown_any B base g (n + 1) cap n hq _ HB1.out HO1.out HLS.out (by omega) (by omega) HD.out).mono ?_); rintro e w3 ⟨⟨b3, rfl⟩, hs3, hh3, hp3, hd3, ho3, hb3, hg3⟩; have HO3 : Hid (w3.ownsRow base 119 2 (.slice (some ⟨g, 0, none⟩) (n + 1) cap) hs3.length (hs3.flatMap encD)) := (by show World.ownsRow _ _ _ _ _ _ _; rw [hp3.length_eq, HLS.out]; exact ho3); have HB3 : Hid (Blk w3 B #[.slice (some ⟨g, 0, none⟩) (n + 1) cap] 117) := hb3; have HG3 : Hid (w1.grownBy w3 (some g)) := hg3; have HF3 : Hid (HeapW hs3 n ∧ hs3.Perm hq ∧ hs3.drop n = hq.drop n) := ⟨hh3, hp3, hd3⟩; clear hh3 hp3 hd3 ho3 hb3 hg3)
  | (go_at_call 119; (with_reducible refine (wPop_any B base _ hs3 n _ HB3.out HO3.out (by rw [HF3.out.2.1.length_eq, HLS.out]) (by omega)).mono ?_); rintro e w4 ⟨rfl, v4, hb4, ho4, hr4, ht4⟩))
 have hpf := popW_facts HH.out HLN.out (by rw [HSQ.out]; exact HF3.out.2.1) (by rw [HSQ.out]; exact HF3.out.2.2) HF3.out.1
 have hl4 : (hs3.take n).length = n := by rw [List.length_take, HF3.out.2.1.length_eq, HLS.out]; omega
 go_ret
 refine ⟨_, rfl, v4, hs3.take n, by rw [hl4]; exact hpf.2.1, by rw [hpf.1]; exact hpf.2.2.1, by rw [hpf.1]; exact hpf.2.2.2, hb4, by rw [hl4]; exact ho4, hr4, ?_⟩
 exact (Turn2.grown (gTrans HG1.out HG3.out) B).trans ht4 (.inl rfl)
end Go.Proofs.Ytfpibdaedfilaaa.Dw
namespace Go.Proofs.Ytfpibdaedfilaaa.Pl
theorem pigeon : ∀ (n : Nat) (l : List Nat), l.Nodup → (∀ x ∈ l, x < n) → l.length ≤ n := by
  intro n
  induction n with
  | zero =>
    intro l _ h
    cases l with
    | nil => simp
    | cons a l => exact absurd (h a (by simp)) (Nat.not_lt_zero _)
  | succ n ih =>
    intro l hn h
    have h1 := ih (l.erase n) (hn.erase n) (fun x hx => by
      have h2 := h x (List.mem_of_mem_erase hx)
      have h3 : x ≠ n := fun e => by subst e; exact hn.not_mem_erase hx
      omega)
    rw [List.length_erase] at h1
    split at h1 <;> omega
end Go.Proofs.Ytfpibdaedfilaaa.Pl
namespace Go.Proofs.Ytfpibdaedfilaaa.Pl
set_option linter.unusedVariables false
set_option linter.unusedSimpArgs false
def lab (a : Int) : List Int := if a = 0 then [] else [a]
inductive Way (l : List St) (q : Nat) : List Int → List Int → Nat → Nat → Prop
 | nil : Way l q [] [] q 0
 | snoc {u v : List Int} {p c : Nat} (h : Way l q u v p c) {a : Ar} (ha : a ∈ (el l p).2) {t : Nat} (ht : a.2.2.2 = (t : Int)) : Way l q (u ++ lab a.1) (v ++ lab a.2.1) t (c + a.2.2.1.toNat)
def Costs (m : Mc) (x y : List Int) (c : Nat) : Prop := 0 ≤ m.1 ∧ ∃ p d, Way m.2 m.1.toNat x y p d ∧ p < m.2.length ∧ (el m.2 p).1 ≠ 1000000001 ∧ c = d + (el m.2 p).1.toNat
def LeastP (P : Nat → Prop) (c : Nat) : Prop := P c ∧ ∀ d, P d → c ≤ d
theorem LeastP.one {P : Nat → Prop} {c d : Nat} (h : LeastP P c) (k : LeastP P d) : c = d := Nat.le_antisymm (h.2 d k.1) (k.2 c h.1)
def WghAns (P : Nat → Prop) (n e : Int) : Prop := ((∀ c, ¬ P c) ∧ n = 1000000001 ∧ e = 0) ∨ ∃ c : Nat, LeastP P c ∧ ((c ≤ 1000000000 ∧ n = (c : Int) ∧ e = 0) ∨ (1000000000 < c ∧ n = 0 ∧ e = 4))
section
variable {E : Nat → Nat → Nat → Prop} {s : Nat}
inductive Run (E : Nat → Nat → Nat → Prop) (s : Nat) : Nat → Nat → Nat → Prop
 | nil : Run E s 0 s 0
 | step {n k c w j : Nat} (h : Run E s n k c) (e : E k w j) : Run E s (n + 1) j (c + w)
theorem Run.cost {W n k c : Nat} (h : Run E s n k c) (hW : ∀ k w j, E k w j → w ≤ W) : c ≤ n * W := by
  induction h with
  | nil => simp
  | step h e ih =>
    have := hW _ _ _ e
    rw [Nat.add_mul]
    omega
theorem Run.trans {n k c m j d : Nat} (h : Run E s n k c) (g : Run E k m j d) : Run E s (n + m) j (c + d) := by
 induction g with
 | nil => exact h
 | step g e ih => rw [← Nat.add_assoc, ← Nat.add_assoc]; exact ih.step e
theorem twice {f : Nat → Nat} {n N : Nat} (hf : ∀ i, i ≤ n → f i < N) (hn : N ≤ n) : ∃ i j, i < j ∧ j ≤ n ∧ f i = f j := by
 by_cases h : ∃ i j, i < j ∧ j ≤ n ∧ f i = f j
 ·exact h
 ·exfalso
  have hnd : ((List.range (n + 1)).map f).Nodup := by
   unfold List.Nodup
   rw [List.pairwise_map]
   refine List.Pairwise.imp_of_mem ?_ (List.pairwise_lt_range (n := n + 1))
   intro a b ha hb hab e
   rw [List.mem_range] at hb
   exact h ⟨a, b, hab, by omega, e⟩
  have := pigeon N _ hnd (fun x hx => by
   rw [List.mem_map] at hx
   obtain ⟨i, hi, rfl⟩ := hx
   rw [List.mem_range] at hi
   exact hf i (by omega))
  simp at this
  omega
end
def fitN (l : List Int) (i : Nat) (b : Int) : Option Nat := if b = 0 then some i else if i < l.length ∧ el l i = b then some (i + 1) else none
def idx (X Y q i j : Nat) : Nat := (q * (X + 1) + i) * (Y + 1) + j
def fitF (free : Bool) (y : List Int) (j : Nat) (b : Int) : Option Nat := if free = true then some j else fitN y j b
def Edge (l : List St) (x y : List Int) (free : Bool) (k w k' : Nat) : Prop :=
 ∃ q i j a t i' j', q < l.length ∧ i ≤ x.length ∧ j ≤ y.length ∧ a ∈ (el l q).2 ∧ a.2.2.2 = ((t : Nat) : Int) ∧ fitN x i a.1 = some i' ∧ fitF free y j a.2.1 = some j' ∧ k = idx x.length y.length q i j ∧ w = a.2.2.1.toNat ∧ k' = idx x.length y.length t i' j'
def shA (d : Int) (a : Ar) : Ar := (a.1, a.2.1, a.2.2.1, a.2.2.2 + d)
def shS (d f : Int) (more : List Ar) (s : St) : St := (f, s.2.map (shA d) ++ more)
def hopA (z d x : Int) : List Ar := if z < 0 then [] else [(0, 0, x, z + d)]
def uniM (a b : Mc) : Mc := (0, (1000000001, hopA a.1 1 0 ++ hopA b.1 (1 + (a.2.length : Int)) 0) :: (a.2.map (fun s => shS 1 s.1 [] s) ++ b.2.map (fun s => shS (1 + (a.2.length : Int)) s.1 [] s)))
def fitE (m : Mc) : Int := if sizeB m = true then 0 else 5
def fitM (m : Mc) : Mc := if sizeB m = true then m else (0, [])
def ratE (a b x : Mc) : Int := if faultM a ≠ 0 then faultM a else if faultM b ≠ 0 then faultM b else fitE x
def ratM (a b x : Mc) : Mc := if faultM a ≠ 0 then (0, []) else if faultM b ≠ 0 then (0, []) else fitM x
theorem arcN_takeR (l : List St) (k : Nat) : arcN (l.take k) ≤ arcN l := by
 conv => rhs; rw [← List.take_append_drop k l, arcN_append]
 omega
theorem hopA_len (z d x : Int) : (hopA z d x).length = if z < 0 then 0 else 1 := by unfold hopA; split <;> rfl
theorem hopA_le (z d x : Int) : (hopA z d x).length ≤ 1 := by rw [hopA_len]; split <;> omega
theorem shS_len (d f : Int) (more : List Ar) (s : St) : (shS d f more s).2.length = s.2.length + more.length := by simp [shS]
theorem uniM_len (a b : Mc) : (uniM a b).2.length = a.2.length + b.2.length + 1 := by simp [uniM]
theorem arcN_sh (l : List St) (d : Int) (f : St → Int) : arcN (l.map (fun s => shS d (f s) [] s)) = arcN l := by
 induction l with
 | nil => rfl
 | cons s l ih => simp only [List.map_cons, arcN, ih, shS_len, List.length_nil]; omega
theorem uniM_arcs (a b : Mc) : arcN (uniM a b).2 ≤ arcN a.2 + arcN b.2 + 2 := by
 have h1 := hopA_le a.1 1 0
 have h2 := hopA_le b.1 (1 + (a.2.length : Int)) 0
 simp only [uniM, arcN, arcN_append, arcN_sh, List.length_append]
 omega
theorem small_ok {m : Mc} (h1 : m.2.length ≤ 100000) (h2 : arcN m.2 ≤ 100000) : okM m := ⟨by omega, fun j hj => by
 have h3 := arcN_take hj
 have h4 := arcN_takeR m.2 (j + 1)
 omega⟩
theorem arcB_sh {n N : Nat} {d : Nat} {a : Ar} (h : arcB n a = true) (hN : n + d ≤ N) : arcB N (shA (d : Int) a) = true := by
 obtain ⟨p, q, r, t⟩ := a
 simp only [arcB, inB, Bool.and_eq_true, decide_eq_true_eq] at h ⊢
 simp only [shA]
 obtain ⟨⟨⟨h1, h2⟩, h3⟩, h4⟩ := h
 exact ⟨⟨⟨h1, h2⟩, h3⟩, by omega, by omega⟩
theorem arcB_hop {N : Nat} {z d x : Int} {n : Nat} (hz : z ≤ (n : Int) - 1) (hd : 0 ≤ d) (hN : (n : Int) + d ≤ (N : Int)) (hx : 0 ≤ x ∧ x ≤ 1000000000) : (hopA z d x).all (arcB N) = true := by
 unfold hopA
 split
 ·rfl
 ·simp [arcB, inB]; omega
theorem stB_sh {n N : Nat} {d : Nat} {s : St} {f : Int} {more : List Ar} (h : stB n s = true) (hN : n + d ≤ N) (hf : finB f = true) (hm : more.all (arcB N) = true) : stB N (shS (d : Int) f more s) = true := by
 simp only [stB, shS, Bool.and_eq_true, List.all_append, List.all_map] at h ⊢
 refine ⟨hf, ?_, hm⟩
 rw [List.all_eq_true] at h ⊢
 exact fun a ha => arcB_sh (h.2 a ha) hN
theorem right_parts {m : Mc} (h : faultM m = 0) : (-1 ≤ m.1 ∧ m.1 ≤ (m.2.length : Int) - 1) ∧ ∀ s ∈ m.2, stB m.2.length s = true := by
 have h1 := (faultM_zero h).2
 simp only [rangeB, Bool.and_eq_true, inB, decide_eq_true_eq, List.all_eq_true] at h1
 exact h1
theorem stB_fin {n : Nat} {s : St} (h : stB n s = true) : finB s.1 = true := by
 simp only [stB, Bool.and_eq_true] at h
 exact h.1
theorem uniM_right {a b : Mc} (ha : faultM a = 0) (hb : faultM b = 0) (hs : sizeB (uniM a b) = true) : faultM (uniM a b) = 0 := by
 refine faultM_ok hs ?_
 obtain ⟨a1, a2⟩ := right_parts ha
 obtain ⟨b1, b2⟩ := right_parts hb
 unfold rangeB
 rw [uniM_len]
 simp only [Bool.and_eq_true, inB, decide_eq_true_eq, List.all_eq_true]
 refine ⟨by simp only [uniM]; omega, ?_⟩
 intro s hsm
 simp only [uniM, List.mem_cons, List.mem_append, List.mem_map] at hsm
 rcases hsm with rfl | ⟨t, ht, rfl⟩ | ⟨t, ht, rfl⟩
 ·simp only [stB, Bool.and_eq_true, List.all_append]
  exact ⟨by simp [finB], arcB_hop (n := a.2.length) a1.2 (by omega) (by omega) (by omega), arcB_hop (n := b.2.length) b1.2 (by omega) (by omega) (by omega)⟩
 ·exact stB_sh (d := 1) (a2 t ht) (by omega) (stB_fin (a2 t ht)) rfl
 ·have := stB_sh (d := 1 + a.2.length) (N := a.2.length + b.2.length + 1) (f := t.1) (more := []) (b2 t ht) (by omega) (stB_fin (b2 t ht)) rfl
  simpa using this
def noneI : Int := 1152921504606846976
def sumT : List Int → Nat
 | [] => 0
 | c :: l => c.toNat + sumT l
theorem el_setT {l : List Int} {q j : Nat} (hq : q < l.length) (x : Int) : el (l.set q x) j = if j = q then x else el l j := by
 by_cases h : j = q
 ·subst h; rw [if_pos rfl]; simp [el, hq]
 ·rw [if_neg h]; simp [el, List.getElem?_set, Ne.symm h]
structure CostT (l : List St) (x y : List Int) (free : Bool) (z : Int) (cs : List Int) : Prop where
 len : cs.length = l.length * (x.length + 1) * (y.length + 1)
 rng : ∀ k, k < cs.length → 0 ≤ el cs k ∧ el cs k ≤ noneI
 beg : 0 ≤ z → el cs (idx x.length y.length z.toNat 0 0) = 0
 run : ∀ k, k < cs.length → el cs k < noneI → 0 ≤ z ∧ ∃ n, Run (Edge l x y free) (idx x.length y.length z.toNat 0 0) n k (el cs k).toNat
theorem el_in {l : List St} {p : Nat} {a : Ar} (h : a ∈ (el l p).2) : p < l.length := by
 rcases Nat.lt_or_ge p l.length with g | g
 ·exact g
 ·have : el l p = default := by simp [el, g]
  rw [this] at h
  exact absurd h (by simp [default])
section
variable {E : Nat → Nat → Nat → Prop} {s : Nat}
theorem Run.parts {n k c : Nat} (h : Run E s n k c) : ∃ f g : Nat → Nat, f 0 = s ∧ f n = k ∧ g n = c ∧ (∀ i, i ≤ n → Run E s i (f i) (g i) ∧ ∃ d, Run E (f i) (n - i) k d ∧ g i + d = c) ∧ ∀ i j, i ≤ j → j ≤ n → g i ≤ g j := by
  induction h with
  | nil => exact ⟨fun _ => s, fun _ => 0, rfl, rfl, rfl, fun i hi => ⟨by rw [show i = 0 by omega]; exact .nil, 0, by rw [show i = 0 by omega]; exact .nil, rfl⟩, fun _ _ _ _ => Nat.le_refl _⟩
  | step h e ih =>
    rename_i n k c w j
    obtain ⟨f, g, f0, fn, gn, hf, hg⟩ := ih
    refine ⟨fun i => if i ≤ n then f i else j, fun i => if i ≤ n then g i else c + w, by simp [f0], if_neg (by omega), if_neg (by omega), fun i hi => ?_, fun a b hab hb => ?_⟩
    · by_cases q : i ≤ n
      · simp only [q, if_true]
        obtain ⟨h1, d, h2, h3⟩ := hf i q
        refine ⟨h1, d + w, ?_, by omega⟩
        have := h2.step e
        rwa [show n - i + 1 = n + 1 - i by omega] at this
      · obtain rfl : i = n + 1 := by omega
        simp only [q, if_false]
        exact ⟨h.step e, 0, by rw [Nat.sub_self]; exact .nil, by omega⟩
    · simp only
      by_cases qb : b ≤ n
      · rw [if_pos qb, if_pos (by omega)]; exact hg a b hab qb
      · rw [if_neg qb]
        by_cases qa : a ≤ n
        · rw [if_pos qa]
          have := hg a n qa (Nat.le_refl _)
          omega
        · rw [if_neg qa]; omega
theorem Run.cheap {N : Nat} (hs : s < N) (hE : ∀ k w j, E k w j → j < N) : ∀ {n k c : Nat}, Run E s n k c → ∃ m d, m < N ∧ d ≤ c ∧ Run E s m k d := by
  have key : ∀ b n k c, n < b → Run E s n k c → ∃ m d, m < N ∧ d ≤ c ∧ Run E s m k d := by
    intro b
    induction b with
    | zero => intro n k c hn; omega
    | succ b ih =>
      intro n k c hn h
      by_cases g : n < N
      · exact ⟨n, c, g, Nat.le_refl _, h⟩
      · obtain ⟨f, gg, f0, fn, gn, hf, hg⟩ := h.parts
        have hin : ∀ i, i ≤ n → f i < N := fun i hi => by
          have h1 := (hf i hi).1
          generalize gg i = y2 at h1
          generalize f i = y at h1
          cases h1 with
          | nil => exact hs
          | step _ e => exact hE _ _ _ e
        obtain ⟨i, j, hij, hj, e⟩ := twice hin (by omega)
        have h1 := (hf i (by omega)).1
        obtain ⟨_, d', h2, h3⟩ := hf j hj
        rw [← e] at h2
        have h4 := hg i j (by omega) hj
        obtain ⟨m, d, hm, hd, hr⟩ := ih _ _ _ (by omega) (h1.trans h2)
        exact ⟨m, d, hm, by omega, hr⟩
  exact fun {n k c} h => key (n + 1) n k c (by omega) h
theorem Run.head {n k c : Nat} (h : Run E s (n + 1) k c) : ∃ j w c', E s w j ∧ Run E j n k c' ∧ c = w + c' := by
  have key : ∀ {m k c}, Run E s m k c → ∀ n, m = n + 1 → ∃ j w c', E s w j ∧ Run E j n k c' ∧ c = w + c' := by
    intro m k c h
    induction h with
    | nil => intro n hn; omega
    | step h e ih =>
      rename_i m k c w j
      intro n hn
      obtain rfl : m = n := by omega
      cases m with
      | zero =>
        cases h with
        | nil => exact ⟨j, w, 0, e, .nil, by omega⟩
      | succ m =>
        obtain ⟨j', w', c', e', h', rfl⟩ := ih m rfl
        exact ⟨j', w', c' + w, e', h'.step e, by omega⟩
  exact key h n rfl
theorem Run.first {j w n k c : Nat} (e : E s w j) (h : Run E j n k c) : Run E s (n + 1) k (w + c) := by
 have h1 : Run E s 1 j (0 + w) := Run.nil.step e
 have := h1.trans h
 rwa [show 1 + n = n + 1 by omega, Nat.zero_add] at this
end
def ArcE (l : List St) (k w j : Nat) : Prop := ∃ a ∈ (el l k).2, a.2.2.2 = (j : Int) ∧ w = a.2.2.1.toNat
def FarC (z : Int) (l : List St) (q c : Nat) : Prop := 0 ≤ z ∧ ∃ n, Run (ArcE l) z.toNat n q c
def EndC (l : List St) (q c : Nat) : Prop := ∃ n p d, Run (ArcE l) q n p d ∧ p < l.length ∧ (el l p).1 ≠ 1000000001 ∧ c = d + (el l p).1.toNat
structure FarT (z : Int) (l : List St) (cs : List Int) : Prop where
 len : cs.length = l.length
 rng : ∀ q, q < l.length → 0 ≤ el cs q ∧ el cs q ≤ noneI
 run : ∀ q, q < l.length → el cs q < noneI → FarC z l q (el cs q).toNat
structure EndT (l : List St) (cs : List Int) : Prop where
 len : cs.length = l.length
 rng : ∀ q, q < l.length → 0 ≤ el cs q ∧ el cs q ≤ noneI
 run : ∀ q, q < l.length → el cs q < noneI → EndC l q (el cs q).toNat
theorem arcE_in {l : List St} {k w j : Nat} (h : ArcE l k w j) : k < l.length := by
 obtain ⟨a, ha, _⟩ := h
 exact el_in ha
theorem arcE_small {m : Mc} (h : faultM m = 0) {k w j : Nat} (e : ArcE m.2 k w j) : j < m.2.length ∧ w ≤ 1000000000 := by
 obtain ⟨a, ha, e1, rfl⟩ := e
 have h1 := (right_parts h).2 _ (el_mem (el_in ha))
 simp only [stB, Bool.and_eq_true, List.all_eq_true] at h1
 have h2 := h1.2 _ ha
 simp only [arcB, inB, Bool.and_eq_true, decide_eq_true_eq] at h2
 omega
def LstAns (P : Nat → Nat → Prop) (N : Nat) (vs : List Int) (e : Int) : Prop := (e = 0 ∧ vs.length = N ∧ ∀ q, q < N → WghAns (P q) (el vs q) 0) ∨ (e = 4 ∧ vs = [] ∧ ∃ q, q < N ∧ WghAns (P q) 0 4)
theorem fin_small {m : Mc} (hf : faultM m = 0) {p : Nat} (hp : p < m.2.length) (hn : (el m.2 p).1 ≠ 1000000001) : 0 ≤ (el m.2 p).1 ∧ (el m.2 p).1 ≤ 1000000000 := by
 have h1 := stB_fin ((right_parts hf).2 _ (el_mem hp))
 simp [finB, inB] at h1
 omega
def DstAns (m : Mc) (P : Nat → Nat → Prop) (vs : List Int) (ec : Int) : Prop := (faultM m ≠ 0 ∧ vs = [] ∧ ec = faultM m) ∨ (faultM m = 0 ∧ LstAns P m.2.length vs ec)
def LpaAns (m : Mc) (x e : Int) : Prop := ∃ vs f, DstAns m (EndC m.2) vs f ∧ ((f ≠ 0 ∧ x = 0 ∧ e = f) ∨ (f = 0 ∧ e = 0 ∧ x = if m.1 < 0 then 1000000001 else el vs m.1.toNat))
theorem DstAns.len {m : Mc} {P : Nat → Nat → Prop} {vs : List Int} (h : DstAns m P vs 0) : vs.length = m.2.length ∧ -1 ≤ m.1 ∧ m.1 ≤ (m.2.length : Int) - 1 := by
 rcases h with ⟨h0, h1, h2⟩ | ⟨h0, h1⟩
 ·exact absurd h2.symm h0
 ·rcases h1 with ⟨_, h2, _⟩ | ⟨h2, _⟩
  ·exact ⟨h2, (right_parts h0).1⟩
  ·exact absurd h2 (by decide)
end Go.Proofs.Ytfpibdaedfilaaa.Pl
namespace Go.Proofs.Ytfpibdaedfilaaa.Pl
def leL (a b : List Bool) : Prop := a.length = b.length ∧ ∀ j, j < a.length → el a j = true → el b j = true
theorem el_setB {l : List Bool} {q j : Nat} (hq : q < l.length) : el (l.set q true) j = if j = q then true else el l j := by
 by_cases h : j = q
 ·subst h; rw [if_pos rfl, el_get (by simpa using hq)]; simp
 ·rw [if_neg h]; simp [el, List.getElem?_set_ne (Ne.symm h)]
structure Pass (C : (Nat → Prop) → Prop) (n : Nat) (b0 bs : List Bool) (chk : Prop) : Prop where
 len : bs.length = n
 le : leL b0 bs
 sound : ∀ T, C T → ∀ q, q < n → el bs q = true → T q
 chk : bs = b0 → chk
structure Rounds (C : (Nat → Prop) → Prop) (n k : Nat) (bs : List Bool) : Prop where
 len : bs.length = n
 sound : ∀ T, C T → ∀ q, q < n → el bs q = true → T q
 more : C (fun q => el bs q = true) ∨ k ≤ bs.count true
theorem el_false {n j : Nat} : el (List.replicate n false) j = false := by
 unfold el
 rw [List.getElem?_replicate]
 split <;> rfl
def SpreadC (n : Nat) (F : List Int) (L : Nat → List Int) (T : Nat → Prop) : Prop := (∀ x ∈ F, T x.toNat) ∧ ∀ q, q < n → T q → ∀ y ∈ L q, T y.toNat
structure Dfs (n M K : Nat) (F : List Int) (L : Nat → List Int) (bs : List Bool) (ws : List Int) : Prop where
 len : bs.length = n
 inn : ∀ x ∈ ws, 0 ≤ x ∧ x < n
 sound : ∀ T, SpreadC n F L T → (∀ q, q < n → el bs q = true → T q) ∧ ∀ x ∈ ws, T x.toNat
 first : ∀ x ∈ F, el bs x.toNat = true ∨ x ∈ ws
 next : ∀ q, q < n → el bs q = true → ∀ y ∈ L q, el bs y.toNat = true ∨ y ∈ ws
 room : bs.count false * (M + 1) + ws.length ≤ K
section
variable {n M K : Nat} {F : List Int} {L : Nat → List Int} {bs : List Bool} {ws : List Int}
theorem count_set {q : Nat} (hq : q < bs.length) (hf : el bs q = false) : (bs.set q true).count false + 1 = bs.count false := by
  induction bs generalizing q with
  | nil => simp at hq
  | cons b l ih =>
    cases q with
    | zero =>
      rw [el_zero] at hf
      subst hf
      simp
    | succ q =>
      rw [el_succ] at hf
      have := ih (q := q) (by simpa using hq) hf
      rw [List.set_cons_succ, List.count_cons, List.count_cons]
      omega
end
end Go.Proofs.Ytfpibdaedfilaaa.Pl
