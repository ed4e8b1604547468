/- The program: container/heap's Push and Pop, at a heap of ways. -/
import Derived.Test.YtfpibdaedfilaaaEap
import Derived.Test.YtfpibdaedfilaaaEab
import Derived.Test.YtfpibdaedfilaaaEae
import Derived.Test.YtfpibdaedfilaaaEac
namespace Go.Proofs.Ytfpibdaedfilaaa.Wt
open Go.ChangeShapes Go.WideShapes Go.ChangeAt Go.RowKit
open Go.Proofs.Ytfpibdaedfilaaa.Pl
set_option linter.unusedVariables false
set_option linter.unusedSimpArgs false
set_option maxRecDepth 100000 in
set_option maxHeartbeats 3200000 in
theorem whPush_any (B base : Nat) (v : Value) (hs : List Ar) (q : Ar) (w : World) (hB : Blk w B #[v] 162) (hown : w.ownsRow base 165 4 v hs.length (hs.flatMap encA)) (hbase : base ≤ w.heap.size) (hn : hs.length ≤ 9000000) (hH : HeapW hs hs.length) :
  Calls Try.prog 70 #[.iface 163 (.pointer (some ⟨B, 0, none⟩)), wayV q] w fun e w' => e = .returned (.tuple #[]) ∧ ∃ v' hs', HeapW hs' hs'.length ∧ hs'.Perm (hs ++ [q]) ∧ Blk w' B #[v'] 162 ∧ w'.ownsRow base 165 4 v' hs'.length (hs'.flatMap encA) ∧ Near w v.ownBlock v' ∧ Turn2 w w' B v.ownBlock := by
 have HP : Hid (Calls Try.prog 133 #[.pointer (some ⟨B, 0, none⟩), wayV q] w fun e w' => e = .returned (.tuple #[]) ∧ ∃ v', Blk w' B #[v'] 162 ∧ w'.ownsRow base 165 4 v' (hs ++ [q]).length ((hs ++ [q]).flatMap encA) ∧ Near w v.ownBlock v' ∧ Turn2 w w' B v.ownBlock) := wPush_any B base v hs q w hB hown hbase (by omega)
 have HU : Hid (UpW (hs ++ [q]) hs.length) := UpW.start hH q
 have HL : Hid ((hs ++ [q]).length = hs.length + 1) := by simp [Hid]
 have mP := methW_push B w
 generalize hs ++ [q] = hq at *
 generalize hs.length = n at *
 clear hB hown hH
 generalize v.ownBlock = r at *
 go_enter Try.func70, Try.ntmps70
 go_wp2_with (first
  | (go_at_call 133; (with_reducible refine HP.out.mono ?_); rintro e w1 ⟨rfl, v1, hb1, ho1, hn1, ht1⟩; obtain ⟨g1, cap1, hv1, _, _, _⟩ := own_someW ho1 (by rw [HL.out]; omega); subst hv1; rw [HL.out] at ho1 hb1 hn1; have HB1 : Hid (Blk w1 B #[.slice (some ⟨g1, 0, none⟩) (n + 1) cap1] 162) := hb1; have HO1 : Hid (w1.ownsRow base 165 4 (.slice (some ⟨g1, 0, none⟩) (n + 1) cap1) (n + 1) (hq.flatMap encA)) := ho1; have HN1 : Hid (Near w r (.slice (some ⟨g1, 0, none⟩) (n + 1) cap1)) := hn1; have HT1 : Hid (Turn2 w w1 B r) := ht1; have mN := methW_len (hb1.cell 0 (v := .slice (some ⟨g1, 0, none⟩) (n + 1) cap1) rfl); clear hb1 ho1 hn1 ht1)
  | (go_at_call 96; (with_reducible refine (wLen_any _ _ _ _).mono ?_); rintro e w2 ⟨rfl, rfl⟩)
  | (go_at_call 86; (with_reducible refine (wUp_any B base g1 (n + 1) cap1 hq n _ HB1.out HO1.out HL.out (by omega) HU.out (by omega)).mono ?_); rintro e w3 ⟨rfl, hs3, hh3, hp3, ho3, hb3, hg3⟩))
 go_end0
 have hl3 : hs3.length = n + 1 := by rw [hp3.length_eq]; exact HL.out
 refine ⟨rfl, _, hs3, by rw [hl3]; exact hh3, hp3, hb3, by rw [hl3]; exact ho3, HN1.out, HT1.out.trans (Turn2.grown hg3 B) ?_⟩
 rcases HN1.out with e | ⟨c, e, hc⟩
 ·exact .inl e
 ·exact .inr ⟨c, e, hc⟩
set_option maxRecDepth 100000 in
set_option maxHeartbeats 3200000 in
theorem whPop_any (B base : Nat) (v : Value) (hs : List Ar) (w : World) (hB : Blk w B #[v] 162) (hown : w.ownsRow base 165 4 v hs.length (hs.flatMap encA)) (h0 : 0 < hs.length) (hn : hs.length ≤ 9000000) (hH : HeapW hs hs.length) :
  Calls Try.prog 72 #[.iface 163 (.pointer (some ⟨B, 0, none⟩))] w fun e w' => ∃ x, e = .returned (wayV x) ∧ ∃ v' hs', HeapW hs' hs'.length ∧ (x :: hs').Perm hs ∧ (∀ y ∈ hs', x.2.2.2 ≤ y.2.2.2) ∧ Blk w' B #[v'] 162 ∧ w'.ownsRow base 165 4 v' hs'.length (hs'.flatMap encA) ∧ v'.ownBlock = v.ownBlock ∧ Turn2 w w' B v.ownBlock := by
 obtain ⟨n, hl⟩ : ∃ n, hs.length = n + 1 := ⟨hs.length - 1, by omega⟩
 rw [hl] at hown
 obtain ⟨g, cap, hv, _, _, _⟩ := own_someW hown (by omega)
 subst hv
 have HLN : Hid (hs.length = n + 1) := hl
 have HH : Hid (HeapW hs hs.length) := hH
 have mN := methW_len (hB.cell 0 (v := .slice (some ⟨g, 0, none⟩) (n + 1) cap) rfl)
 have mS := methW_swap (hB.cell 0 (v := .slice (some ⟨g, 0, none⟩) (n + 1) cap) rfl)
 have HSW : Hid (Calls Try.prog 131 #[.slice (some ⟨g, 0, none⟩) (n + 1) cap, .int .i64 0, .int .i64 (n : Int)] w fun e w' => e = .returned (.tuple #[]) ∧ w'.ownsRow base 165 4 (.slice (some ⟨g, 0, none⟩) (n + 1) cap) (n + 1) ((swpW hs 0 n).flatMap encA) ∧ Blk w' B #[.slice (some ⟨g, 0, none⟩) (n + 1) cap] 162 ∧ w.grownBy w' (some g)) := wkSwap (B := B) hown hB hl (by omega) (i := 0) (j := n) (by omega) (by omega)
 have HD : Hid (DownW (swpW hs 0 n) 0 n) := DownW.start hH hl
 have HLS : Hid ((swpW hs 0 n).length = n + 1) := by show _ = _; rw [swpW_length]; exact hl
 have mP := methW_pop B
 have h9 : n ≤ 9000000 := by omega
 clear hB hown hH hl hn h0
 generalize hsw : swpW hs 0 n = hq at *
 have HSQ : Hid (swpW hs 0 n = hq) := hsw
 clear hsw
 go_enter Try.func72, Try.ntmps72
 go_wp2_with (first
  | (go_at_call 96; (with_reducible refine (wLen_any _ _ _ _).mono ?_); rintro e w2 ⟨rfl, rfl⟩)
  | (go_at_call 131; (with_reducible refine HSW.out.mono ?_); rintro e w1 ⟨rfl, ho1, hb1, hg1⟩; have HO1 : Hid (w1.ownsRow base 165 4 (.slice (some ⟨g, 0, none⟩) (n + 1) cap) (n + 1) (hq.flatMap encA)) := ho1; have HB1 : Hid (Blk w1 B #[.slice (some ⟨g, 0, none⟩) (n + 1) cap] 162) := hb1; have HG1 : Hid (w2.grownBy w1 (some g)) := hg1; clear ho1 hb1 hg1)
  | (go_at_call 87; (with_reducible refine (wDown_any B base g (n + 1) cap n hq _ HB1.out HO1.out HLS.out (by omega) (by omega) HD.out).mono ?_); rintro e w3 ⟨⟨b3, rfl⟩, hs3, hh3, hp3, hd3, ho3, hb3, hg3⟩; have HO3 : Hid (w3.ownsRow base 165 4 (.slice (some ⟨g, 0, none⟩) (n + 1) cap) hs3.length (hs3.flatMap encA)) := (by show World.ownsRow _ _ _ _ _ _ _; rw [hp3.length_eq, HLS.out]; exact ho3); have HB3 : Hid (Blk w3 B #[.slice (some ⟨g, 0, none⟩) (n + 1) cap] 162) := hb3; have HG3 : Hid (w1.grownBy w3 (some g)) := hg3; have HF3 : Hid (HeapW hs3 n ∧ hs3.Perm hq ∧ hs3.drop n = hq.drop n) := ⟨hh3, hp3, hd3⟩; clear hh3 hp3 hd3 ho3 hb3 hg3)
  | (go_at_call 132; (with_reducible refine (wPop_any B base _ hs3 n _ HB3.out HO3.out (by rw [HF3.out.2.1.length_eq, HLS.out]) (by omega)).mono ?_); rintro e w4 ⟨rfl, v4, hb4, ho4, hr4, ht4⟩))
 have hpf := popW_facts HH.out HLN.out (by rw [HSQ.out]; exact HF3.out.2.1) (by rw [HSQ.out]; exact HF3.out.2.2) HF3.out.1
 have hl4 : (hs3.take n).length = n := by rw [List.length_take, HF3.out.2.1.length_eq, HLS.out]; omega
 go_ret
 refine ⟨_, rfl, v4, hs3.take n, by rw [hl4]; exact hpf.2.1, by rw [hpf.1]; exact hpf.2.2.1, by rw [hpf.1]; exact hpf.2.2.2, hb4, by rw [hl4]; exact ho4, hr4, ?_⟩
 exact (Turn2.grown (gTrans HG1.out HG3.out) B).trans ht4 (.inl rfl)
set_option maxRecDepth 100000 in
theorem labelAt_any (v : Value) (l : List Int) (i : Nat) (w : World) (h : Nums w v l) (hl : l.length ≤ 12) (hi : i ≤ 100) :
  Calls Try.prog 99 #[v, .int .i64 (i : Int)] w fun e w' => e = .returned (.int .i64 (atW l i)) ∧ w = w' := by
 obtain ⟨a, cap, rfl, hc⟩ := h.get
 unfold atW
 by_cases hlt : i < l.length
 ·obtain ⟨b, off, rfl, hb, g0⟩ := hc i hlt
  rw [if_pos hlt]
  generalize el l i = y at *
  have h1 : ¬ (l.length : Int) ≤ (i : Int) := by omega
  have h2 : (0 : Int) ≤ (i : Int) := by omega
  have h3 : (i : Int) < (l.length : Int) := by omega
  clear h hc
  generalize l.length = n at *
  go_enter Try.func99, Try.ntmps99
  go_wp2
  go_ret
  exact ⟨rfl, rfl⟩
 ·rw [if_neg hlt]
  have h1 : (l.length : Int) ≤ (i : Int) := by omega
  clear h hc
  generalize l.length = n at *
  go_enter Try.func99, Try.ntmps99
  go_wp2
  go_ret
  exact ⟨rfl, rfl⟩
end Go.Proofs.Ytfpibdaedfilaaa.Wt
namespace Go.Proofs.Ytfpibdaedfilaaa.Pl
set_option linter.unusedVariables false
set_option linter.unusedSimpArgs false
abbrev Pt := Nat × Nat × Nat
def wyV (p : Pt) (c : Nat) : Ar := ((p.1 : Int), (p.2.1 : Int), (p.2.2 : Int), (c : Int))
theorem wyV_one {p q : Pt} {c d : Nat} (h : wyV p c = wyV q d) : p = q ∧ c = d := by
 obtain ⟨a, b, e⟩ := p
 obtain ⟨a', b', e'⟩ := q
 simp only [wyV, Prod.mk.injEq] at h
 obtain ⟨h1, h2, h3, h4⟩ := h
 refine ⟨?_, by omega⟩
 simp only [Prod.mk.injEq]
 omega
def ToP (l : List St) (x y : List Int) (q : Pt) (i : Nat) (p : Pt) : Prop :=
 i < (el l q.1).2.length ∧ (el (el l q.1).2 i).2.2.2 = (p.1 : Int) ∧ fitN x q.2.1 (el (el l q.1).2 i).1 = some p.2.1 ∧ fitN y q.2.2 (el (el l q.1).2 i).2.1 = some p.2.2
def wtP (l : List St) (q : Pt) (i : Nat) : Nat := (el (el l q.1).2 i).2.2.1.toNat
theorem ToP.one {l : List St} {x y : List Int} {q : Pt} {i : Nat} {p p' : Pt} (h : ToP l x y q i p) (k : ToP l x y q i p') : p = p' := by
 obtain ⟨a, b, e⟩ := p
 obtain ⟨a', b', e'⟩ := p'
 obtain ⟨_, h1, h2, h3⟩ := h
 obtain ⟨_, k1, k2, k3⟩ := k
 simp only at h1 h2 h3 k1 k2 k3
 rw [h2] at k2
 rw [h3] at k3
 injection k2 with k2
 injection k3 with k3
 simp only [Prod.mk.injEq]
 omega
inductive Rch (l : List St) (x y : List Int) (z : Nat) : Pt → Nat → Prop
 | nil : Rch l x y z (z, 0, 0) 0
 | step {q p : Pt} {c i : Nat} (h : Rch l x y z q c) (hi : i < (el l q.1).2.length) (e : ToP l x y q i p) : Rch l x y z p (c + wtP l q i)
def InP (l : List St) (x y : List Int) (p : Pt) : Prop := p.1 < l.length ∧ p.2.1 ≤ x.length ∧ p.2.2 ≤ y.length
def ToL (l : List St) : Prop := ∀ q, q < l.length → ∀ a ∈ (el l q).2, (∃ t : Nat, a.2.2.2 = (t : Int) ∧ t < l.length) ∧ 0 ≤ a.2.2.1 ∧ a.2.2.1 ≤ 1000000000
theorem ToP.inside {l : List St} {x y : List Int} (hto : ToL l) {q p : Pt} {i : Nat} (hq : InP l x y q) (e : ToP l x y q i p) : InP l x y p ∧ wtP l q i ≤ 1000000000 := by
 obtain ⟨hi, h1, h2, h3⟩ := e
 obtain ⟨⟨t, e1, e2⟩, _, e3⟩ := hto _ hq.1 _ (el_mem hi)
 rw [h1] at e1
 refine ⟨⟨by omega, fitN_le h2 hq.2.1, fitN_le h3 hq.2.2⟩, ?_⟩
 unfold wtP
 omega
theorem Rch.inside {l : List St} {x y : List Int} {z : Nat} (hto : ToL l) (hz : z < l.length) {p : Pt} {c : Nat} (h : Rch l x y z p c) : InP l x y p := by
 induction h with
 | nil => exact ⟨hz, Nat.zero_le _, Nat.zero_le _⟩
 | step h hi e ih => exact (e.inside hto ih).1
theorem Rch.way {l : List St} {x y : List Int} {z : Nat} (hto : ToL l) (hz : z < l.length) {p : Pt} {c : Nat} (h : Rch l x y z p c) : Way l z (x.take p.2.1) (y.take p.2.2) p.1 c := by
  induction h with
  | nil => simpa using Way.nil
  | step h hi e ih =>
    obtain ⟨_, h1, h2, h3⟩ := e
    rw [fitN_take h2, fitN_take h3]
    exact ih.snoc (el_mem hi) h1
theorem way_rch {l : List St} {x y : List Int} {z q c : Nat} {u v : List Int} (h : Way l z u v q c) :
    ∀ i j, i ≤ x.length → j ≤ y.length → u = x.take i → v = y.take j → Rch l x y z (q, i, j) c := by
  induction h with
  | nil =>
    intro i j hi hj hu hv
    have h1 : i = 0 := by
      have := congrArg List.length hu
      simp at this; omega
    have h2 : j = 0 := by
      have := congrArg List.length hv
      simp at this; omega
    subst h1; subst h2
    exact .nil
  | snoc h ha ht ih =>
    intro i j hi hj hu hv
    obtain ⟨i0, hi0, hu0, f1⟩ := take_fitN hi hu
    obtain ⟨j0, hj0, hv0, f2⟩ := take_fitN hj hv
    obtain ⟨k, hk, rfl⟩ := mem_el ha
    exact Rch.step (q := (_, i0, j0)) (i := k) (ih i0 j0 hi0 hj0 hu0 hv0) hk ⟨hk, ht, f1, f2⟩
theorem rch_iff {l : List St} {x y : List Int} {z q c : Nat} (hto : ToL l) (hz : z < l.length) : Rch l x y z (q, x.length, y.length) c ↔ Way l z x y q c :=
 ⟨fun h => by simpa using h.way hto hz, fun h => way_rch h _ _ (Nat.le_refl _) (Nat.le_refl _) (by simp) (by simp)⟩
structure Dij (l : List St) (x y : List Int) (z : Nat) (ds : List (Pt × Nat)) (H : List Ar) (O : Pt → Nat → Prop) (b : Nat) : Prop where
 nd : (ds.map Prod.fst).Nodup
 heap : ∀ h ∈ H, ∃ p c, h = wyV p c ∧ Rch l x y z p c ∧ b ≤ c ∧ c ≤ ds.length * 1000000000
 done : ∀ p c, (p, c) ∈ ds → Rch l x y z p c ∧ c ≤ b ∧ c + 1000000000 ≤ ds.length * 1000000000
 clos : ∀ q c, (q, c) ∈ ds → ∀ i p, ToP l x y q i p → ¬ O q i → (∃ e, (p, e) ∈ ds ∧ e ≤ c + wtP l q i) ∨ wyV p (c + wtP l q i) ∈ H
 beg : ((z, 0, 0), 0) ∈ ds ∨ wyV (z, 0, 0) 0 ∈ H
theorem nodup_one {ds : List (Pt × Nat)} (h : (ds.map Prod.fst).Nodup) {p : Pt} {c d : Nat} (h1 : (p, c) ∈ ds) (h2 : (p, d) ∈ ds) : c = d := by
  induction ds with
  | nil => cases h1
  | cons a ds ih =>
    rw [List.map_cons, List.nodup_cons] at h
    rcases List.mem_cons.1 h1 with e1 | e1 <;> rcases List.mem_cons.1 h2 with e2 | e2
    · rw [← e1] at e2; injection e2 with _ e2; exact e2.symm
    · exact absurd (List.mem_map.2 ⟨_, e2, by rw [← e1]⟩) h.1
    · exact absurd (List.mem_map.2 ⟨_, e1, by rw [← e2]⟩) h.1
    · exact ih h.2 e1 e2
theorem Dij.start {l : List St} {x y : List Int} {z : Nat} (O : Pt → Nat → Prop) : Dij l x y z [] [wyV (z, 0, 0) 0] O 0 :=
 ⟨List.nodup_nil, fun h hh => ⟨(z, 0, 0), 0, by simpa using hh, .nil, Nat.le_refl _, by simp⟩, fun p c h => (by cases h), fun q c h => (by cases h), .inr (by simp)⟩
theorem Dij.old {l : List St} {x y : List Int} {z : Nat} {ds : List (Pt × Nat)} {H H' : List Ar} {b : Nat} (h : Dij l x y z ds H (fun _ _ => False) b) {p : Pt} {c d : Nat} (hp : (wyV p c :: H').Perm H) (hd : (p, d) ∈ ds) :
  Dij l x y z ds H' (fun _ _ => False) b := by
 have hsub : ∀ a ∈ H', a ∈ H := fun a ha => hp.mem_iff.1 (List.mem_cons_of_mem _ ha)
 obtain ⟨p', c', e0, _, hbc, _⟩ := h.heap (wyV p c) (hp.mem_iff.1 List.mem_cons_self)
 obtain ⟨rfl, rfl⟩ := wyV_one e0
 have hdc : d ≤ c := Nat.le_trans (h.done p d hd).2.1 hbc
 have split : ∀ {q : Pt} {e : Nat}, wyV q e ∈ H → (q = p ∧ e = c) ∨ wyV q e ∈ H' := fun {q e} hq => by
  rcases List.mem_cons.1 (hp.mem_iff.2 hq) with g | g
  ·exact .inl (wyV_one g)
  ·exact .inr g
 refine ⟨h.nd, fun a ha => h.heap a (hsub a ha), h.done, fun q e hq i p' ht hO => ?_, ?_⟩
 ·rcases h.clos q e hq i p' ht hO with g | g
  ·exact .inl g
  ·rcases split g with ⟨rfl, g2⟩ | g
   ·exact .inl ⟨d, hd, by omega⟩
   ·exact .inr g
 ·rcases h.beg with g | g
  ·exact .inl g
  ·rcases split g with ⟨g1, g2⟩ | g
   ·rw [← g1] at hd
    obtain rfl : d = 0 := by omega
    exact .inl hd
   ·exact .inr g
theorem Dij.new {l : List St} {x y : List Int} {z : Nat} {ds : List (Pt × Nat)} {H H' : List Ar} {b : Nat} (h : Dij l x y z ds H (fun _ _ => False) b) {p : Pt} {c : Nat} (hp : (wyV p c :: H').Perm H) (hmin : ∀ a ∈ H', (c : Int) ≤ a.2.2.2) (hd : ∀ d, (p, d) ∉ ds) :
  Dij l x y z (ds ++ [(p, c)]) H' (fun q i => q = p ∧ 0 ≤ i) c := by
 have hsub : ∀ a ∈ H', a ∈ H := fun a ha => hp.mem_iff.1 (List.mem_cons_of_mem _ ha)
 obtain ⟨p', c', e0, hr, hbc, hcb⟩ := h.heap (wyV p c) (hp.mem_iff.1 List.mem_cons_self)
 obtain ⟨rfl, rfl⟩ := wyV_one e0
 have split : ∀ {q : Pt} {e : Nat}, wyV q e ∈ H → (q = p ∧ e = c) ∨ wyV q e ∈ H' := fun {q e} hq => by
  rcases List.mem_cons.1 (hp.mem_iff.2 hq) with g | g
  ·exact .inl (wyV_one g)
  ·exact .inr g
 have hlen : (ds ++ [(p, c)]).length * 1000000000 = ds.length * 1000000000 + 1000000000 := by rw [List.length_append, List.length_singleton, Nat.add_mul, Nat.one_mul]
 refine ⟨?_, fun a ha => ?_, fun q e hq => ?_, fun q e hq i p' ht hO => ?_, ?_⟩
 ·rw [List.map_append, List.nodup_append]
  refine ⟨h.nd, by simp, fun q hq q' hq' => ?_⟩
  simp only [List.map_cons, List.map_nil, List.mem_singleton] at hq'
  subst hq'
  obtain ⟨⟨q0, e0⟩, h1, rfl⟩ := List.mem_map.1 hq
  intro e
  simp only at e
  subst e
  exact hd _ h1
 ·obtain ⟨q, e, rfl, k1, k2, k3⟩ := h.heap a (hsub a ha)
  have := hmin _ ha
  simp only [wyV] at this
  exact ⟨q, e, rfl, k1, by omega, by rw [hlen]; exact Nat.le_trans k3 (Nat.le_add_right _ _)⟩
 ·rcases List.mem_append.1 hq with g | g
  ·obtain ⟨k1, k2, k3⟩ := h.done q e g
   exact ⟨k1, Nat.le_trans k2 hbc, by rw [hlen]; exact Nat.le_trans k3 (Nat.le_add_right _ _)⟩
  ·simp only [List.mem_singleton, Prod.mk.injEq] at g
   obtain ⟨rfl, rfl⟩ := g
   exact ⟨hr, Nat.le_refl _, by rw [hlen]; exact Nat.add_le_add_right hcb _⟩
 ·rcases List.mem_append.1 hq with g | g
  ·rcases h.clos q e g i p' ht id with ⟨e', g1, g2⟩ | g1
   ·exact .inl ⟨e', List.mem_append_left _ g1, g2⟩
   ·rcases split g1 with ⟨rfl, g2⟩ | g2
    ·exact .inl ⟨c, by simp, by omega⟩
    ·exact .inr g2
  ·simp only [List.mem_singleton, Prod.mk.injEq] at g
   obtain ⟨rfl, rfl⟩ := g
   exact absurd ⟨rfl, Nat.zero_le _⟩ hO
 ·rcases h.beg with g | g
  ·exact .inl (List.mem_append_left _ g)
  ·rcases split g with ⟨g1, g2⟩ | g
   ·left
    rw [g1, g2]
    simp
   ·exact .inr g
theorem Dij.push {l : List St} {x y : List Int} {z : Nat} {ds : List (Pt × Nat)} {H H' : List Ar} {p : Pt} {c k : Nat} (hto : ToL l) (hz : z < l.length) (h : Dij l x y z ds H (fun q i => q = p ∧ k ≤ i) c) (hpc : (p, c) ∈ ds) {p' : Pt} (ht : ToP l x y p k p') (hp : H'.Perm (H ++ [wyV p' (c + wtP l p k)])) :
  Dij l x y z ds H' (fun q i => q = p ∧ k + 1 ≤ i) c := by
 obtain ⟨k1, k2, k3⟩ := h.done p c hpc
 have hmem : ∀ a, a ∈ H' ↔ a ∈ H ∨ a = wyV p' (c + wtP l p k) := fun a => by rw [hp.mem_iff, List.mem_append, List.mem_singleton]
 have hw := (ht.inside hto (k1.inside hto hz)).2
 refine ⟨h.nd, fun a ha => ?_, h.done, fun q e hq i r hr hO => ?_, ?_⟩
 ·rcases (hmem a).1 ha with g | g
  ·exact h.heap a g
  ·exact ⟨_, _, g, k1.step ht.1 ht, by omega, by omega⟩
 ·by_cases e1 : q = p ∧ k ≤ i
  ·obtain ⟨rfl, e2⟩ := e1
   have e3 : i = k := by
    by_cases e4 : k + 1 ≤ i
    ·exact absurd ⟨rfl, e4⟩ hO
    ·omega
   subst e3
   have e5 := hr.one ht
   subst e5
   have e6 := nodup_one h.nd hq hpc
   subst e6
   exact .inr ((hmem _).2 (.inr rfl))
  ·rcases h.clos q e hq i r hr e1 with g | g
   ·exact .inl g
   ·exact .inr ((hmem _).2 (.inl g))
 ·rcases h.beg with g | g
  ·exact .inl g
  ·exact .inr ((hmem _).2 (.inl g))
theorem Dij.skip {l : List St} {x y : List Int} {z : Nat} {ds : List (Pt × Nat)} {H : List Ar} {p : Pt} {c k : Nat} (h : Dij l x y z ds H (fun q i => q = p ∧ k ≤ i) c) (ht : ∀ p', ¬ ToP l x y p k p') :
  Dij l x y z ds H (fun q i => q = p ∧ k + 1 ≤ i) c := by
 refine ⟨h.nd, h.heap, h.done, fun q e hq i r hr hO => h.clos q e hq i r hr fun g => hO ⟨g.1, ?_⟩, h.beg⟩
 by_cases e : i = k
 ·subst e
  obtain ⟨rfl, _⟩ := g
  exact absurd hr (ht r)
 ·omega
theorem Dij.all {l : List St} {x y : List Int} {z : Nat} {ds : List (Pt × Nat)} {H : List Ar} {p : Pt} {c k : Nat} (h : Dij l x y z ds H (fun q i => q = p ∧ k ≤ i) c) (hk : (el l p.1).2.length ≤ k) :
  Dij l x y z ds H (fun _ _ => False) c :=
 ⟨h.nd, h.heap, h.done, fun q e hq i r hr _ => h.clos q e hq i r hr fun g => by
  have := hr.1
  rw [g.1] at this
  omega, h.beg⟩
theorem Dij.told {l : List St} {x y : List Int} {z : Nat} {ds : List (Pt × Nat)} {b : Nat} (h : Dij l x y z ds [] (fun _ _ => False) b) {p : Pt} {c : Nat} (hr : Rch l x y z p c) : ∃ d, (p, d) ∈ ds ∧ d ≤ c := by
  induction hr with
  | nil =>
    rcases h.beg with g | g
    · exact ⟨0, g, Nat.le_refl _⟩
    · cases g
  | step hr hi e ih =>
    obtain ⟨d, h1, h2⟩ := ih
    rcases h.clos _ _ h1 _ _ e id with ⟨d', g1, g2⟩ | g
    · exact ⟨d', g1, by omega⟩
    · cases g
theorem Dij.few {l : List St} {x y : List Int} {z : Nat} {ds : List (Pt × Nat)} {H : List Ar} {O : Pt → Nat → Prop} {b : Nat} (h : Dij l x y z ds H O b) (hto : ToL l) (hz : z < l.length) (hl : l.length ≤ 60) (hx : x.length ≤ 12) (hy : y.length ≤ 12) : ds.length ≤ 10140 := by
 have hin : ∀ p ∈ ds.map Prod.fst, InP l x y p := fun p hp => by
  obtain ⟨⟨q, c⟩, h1, rfl⟩ := List.mem_map.1 hp
  exact (h.done q c h1).1.inside hto hz
 have hnd : ((ds.map Prod.fst).map fun p : Pt => idx x.length y.length p.1 p.2.1 p.2.2).Nodup := by
  unfold List.Nodup
  rw [List.pairwise_map]
  refine List.Pairwise.imp_of_mem ?_ h.nd
  rintro ⟨a, b, c⟩ ⟨a', b', c'⟩ h1 h2 hne e
  have i1 := hin _ h1
  have i2 := hin _ h2
  obtain ⟨rfl, rfl, rfl⟩ := idx_one i1.2.1 i1.2.2 i2.2.1 i2.2.2 e
  exact hne rfl
 have := pigeon (l.length * (x.length + 1) * (y.length + 1)) _ hnd (fun k hk => by
  obtain ⟨p, hp, rfl⟩ := List.mem_map.1 hk
  have := hin p hp
  exact idx_lt this.1 this.2.1 this.2.2)
 rw [List.length_map, List.length_map] at this
 have h1 : l.length * (x.length + 1) ≤ 60 * 13 := Nat.mul_le_mul hl (by omega)
 have h2 : l.length * (x.length + 1) * (y.length + 1) ≤ 60 * 13 * 13 := Nat.mul_le_mul h1 (by omega)
 omega
def BstA (P : Nat → Prop) (n : Int) (f : Bool) : Prop := (f = false ∧ n = 0 ∧ ∀ c, ¬ P c) ∨ (f = true ∧ ∃ c : Nat, LeastP P c ∧ n = (c : Int))
def CstN (R : Nat → Nat → Prop) (l : List St) (n : Nat) (c : Nat) : Prop := ∃ p d, p < n ∧ R p d ∧ (el l p).1 ≠ 1000000001 ∧ c = d + (el l p).1.toNat
def RW (m : Mc) (x y : List Int) (q d : Nat) : Prop := 0 ≤ m.1 ∧ Way m.2 m.1.toNat x y q d
theorem cstN_all (m : Mc) (x y : List Int) (c : Nat) : CstN (RW m x y) m.2 m.2.length c ↔ Costs m x y c := by
 unfold CstN Costs RW
 constructor
 ·rintro ⟨p, d, h1, ⟨h0, h2⟩, h3, h4⟩
  exact ⟨h0, p, d, h2, h1, h3, h4⟩
 ·rintro ⟨h0, p, d, h2, h1, h3, h4⟩
  exact ⟨p, d, h1, ⟨h0, h2⟩, h3, h4⟩
theorem BstA.start (R : Nat → Nat → Prop) (l : List St) : BstA (CstN R l 0) 0 false := .inl ⟨rfl, rfl, fun c ⟨p, d, h, _⟩ => by omega⟩
theorem BstA.congr {P Q : Nat → Prop} (hPQ : ∀ c, P c ↔ Q c) {n : Int} {f : Bool} (h : BstA P n f) : BstA Q n f := by
 have : P = Q := funext fun c => propext (hPQ c)
 rwa [← this]
theorem BstA.skip {R : Nat → Nat → Prop} {l : List St} {k : Nat} {n : Int} {f : Bool} (h : BstA (CstN R l k) n f) (hno : (∀ d, ¬ R k d) ∨ (el l k).1 = 1000000001) : BstA (CstN R l (k + 1)) n f := by
 refine h.congr fun c => ⟨fun ⟨p, d, h1, h2⟩ => ⟨p, d, by omega, h2⟩, fun ⟨p, d, h1, h2, h3, h4⟩ => ?_⟩
 by_cases e : p = k
 ·subst e
  rcases hno with g | g
  ·exact absurd h2 (g d)
  ·exact absurd g h3
 ·exact ⟨p, d, by omega, h2, h3, h4⟩
theorem BstA.take {R : Nat → Nat → Prop} {l : List St} {k e : Nat} {n : Int} {f : Bool} (h : BstA (CstN R l k) n f) (hw : LeastP (R k) e) (hf : (el l k).1 ≠ 1000000001) (h0 : 0 ≤ (el l k).1) (hlt : f = false ∨ (e : Int) + (el l k).1 < n) : BstA (CstN R l (k + 1)) ((e : Int) + (el l k).1) true := by
 refine .inr ⟨rfl, e + (el l k).1.toNat, ⟨⟨k, e, by omega, hw.1, hf, rfl⟩, ?_⟩, by omega⟩
 rintro c ⟨p, d, h1, h2, h3, rfl⟩
 by_cases g : p = k
 ·subst g
  have := hw.2 d h2
  omega
 ·rcases h with ⟨_, _, hno⟩ | ⟨rfl, b, hb, rfl⟩
  ·exact absurd ⟨p, d, by omega, h2, h3, rfl⟩ (hno _)
  ·have := hb.2 _ ⟨p, d, by omega, h2, h3, rfl⟩
   rcases hlt with g1 | g1
   ·cases g1
   ·omega
theorem BstA.stay {R : Nat → Nat → Prop} {l : List St} {k e : Nat} {n : Int} (h : BstA (CstN R l k) n true) (hw : LeastP (R k) e) (h0 : 0 ≤ (el l k).1) (hlt : ¬ (e : Int) + (el l k).1 < n) : BstA (CstN R l (k + 1)) n true := by
 rcases h with ⟨h, _⟩ | ⟨_, b, hb, rfl⟩
 ·cases h
 ·obtain ⟨p0, d0, g1, g2, g3, g4⟩ := hb.1
  refine .inr ⟨rfl, b, ⟨⟨p0, d0, by omega, g2, g3, g4⟩, ?_⟩, rfl⟩
  rintro c ⟨p, d, h1, h2, h3, rfl⟩
  by_cases g : p = k
  ·subst g
   have := hw.2 d h2
   omega
  ·exact hb.2 _ ⟨p, d, by omega, h2, h3, rfl⟩
def PlT (m : Mc) (x y : List Int) (ds : List (Pt × Nat)) : Prop := ∀ q, q < m.2.length → (∃ d, ((q, x.length, y.length), d) ∈ ds ∧ d ≤ 20000000000000 ∧ LeastP (RW m x y q) d) ∨ ((∀ d, ((q, x.length, y.length), d) ∉ ds) ∧ ∀ d, ¬ RW m x y q d)
theorem PlT.none {m : Mc} {x y : List Int} (h : m.1 < 0) : PlT m x y [] := fun q hq => .inr ⟨fun d hd => (by cases hd), fun d hd => by have := hd.1; omega⟩
theorem PlT.dij {m : Mc} {x y : List Int} {z : Nat} {ds : List (Pt × Nat)} {b : Nat} (hz : m.1 = (z : Int)) (hzl : z < m.2.length) (hto : ToL m.2) (h : Dij m.2 x y z ds [] (fun _ _ => False) b) (hl : m.2.length ≤ 60) (hx : x.length ≤ 12) (hy : y.length ≤ 12) : PlT m x y ds := by
 intro q hq
 have hrw : ∀ d, RW m x y q d ↔ Rch m.2 x y z (q, x.length, y.length) d := fun d => by
  unfold RW
  rw [hz, Int.toNat_natCast, rch_iff hto hzl]
  exact ⟨fun h => h.2, fun h => ⟨by omega, h⟩⟩
 by_cases he : ∃ d, ((q, x.length, y.length), d) ∈ ds
 ·obtain ⟨d, hd⟩ := he
  refine .inl ⟨d, hd, ?_, (hrw d).2 (h.done _ _ hd).1, fun d' hd' => ?_⟩
  ·have h1 := (h.done _ _ hd).2.2
   have h2 := h.few hto hzl hl hx hy
   have : ds.length * 1000000000 ≤ 10140 * 1000000000 := Nat.mul_le_mul_right _ h2
   omega
  ·obtain ⟨d2, h1, h2⟩ := h.told ((hrw d').1 hd')
   rw [nodup_one h.nd hd h1]
   exact h2
 ·refine .inr ⟨fun d hd => he ⟨d, hd⟩, fun d hd => ?_⟩
  obtain ⟨d2, h1, _⟩ := h.told ((hrw d).1 hd)
  exact he ⟨d2, h1⟩
theorem BstA.wgh {P : Nat → Prop} {n : Int} {f : Bool} (h : BstA P n f) : WghAns P (if f = true then (if 1000000000 < n then 0 else n) else 1000000001) (if f = true then (if 1000000000 < n then 4 else 0) else 0) := by
 rcases h with ⟨rfl, rfl, h⟩ | ⟨rfl, c, hc, rfl⟩
 ·exact .inl ⟨h, rfl, rfl⟩
 ·rw [if_pos rfl, if_pos rfl]
  by_cases g : (1000000000 : Int) < c
  ·rw [if_pos g, if_pos g]
   exact .inr ⟨c, hc, .inr ⟨by omega, rfl, rfl⟩⟩
  ·rw [if_neg g, if_neg g]
   exact .inr ⟨c, hc, .inl ⟨by omega, rfl, rfl⟩⟩
theorem right_toL {m : Mc} (h : faultM m = 0) : ToL m.2 := by
 obtain ⟨z, l⟩ := m
 intro q hq a ha
 simp only at hq ha ⊢
 have h1 := (right_st h hq).2
 rw [List.all_eq_true] at h1
 have h2 := h1 a ha
 simp only [arcB, Bool.and_eq_true, inB, decide_eq_true_eq] at h2
 refine ⟨⟨a.2.2.2.toNat, by omega, by omega⟩, by omega, by omega⟩
theorem right_arcs {m : Mc} (h : faultM m = 0) (q : Nat) : (el m.2 q).2.length ≤ 400 := by
  obtain ⟨z, l⟩ := m
  rcases Nat.lt_or_ge q l.length with g | g
  · have h1 := (right_size h).2
    have : (el l q).2.length ≤ arcN l := by
      have hs : ∀ (l : List St) (q : Nat), q < l.length → (el l q).2.length ≤ arcN l := by
        intro l
        induction l with
        | nil => intro q hq; simp at hq
        | cons s l ih =>
          intro q hq
          cases q with
          | zero => rw [el_zero]; simp [arcN]
          | succ q => rw [el_succ]; have := ih q (by simpa using hq); simp [arcN]; omega
      exact hs l q g
    exact Nat.le_trans this h1
  · have : el l q = default := by simp [el, g]
    show (el l q).2.length ≤ 400
    rw [this]
    simp [default]
def behP (w : List Int) (i : Nat) (b : Int) : Int × Bool := if b = 0 then ((i : Int), true) else ((i : Int) + 1, decide (i < w.length ∧ el w i = b))
theorem behP_fit {w : List Int} {i : Nat} {b : Int} : ((behP w i b).2 = true → ∃ j : Nat, fitN w i b = some j ∧ (behP w i b).1 = (j : Int)) ∧ ((behP w i b).2 = false → fitN w i b = none) := by
 unfold behP fitN
 by_cases h : b = 0
 ·simp [h]
 ·by_cases g : i < w.length ∧ el w i = b
  ·simp only [h, if_false, g, and_self, if_true, decide_true, true_implies, Bool.true_eq_false, false_implies, and_true]
   exact ⟨i + 1, rfl, by omega⟩
  ·simp [h, g]
end Go.Proofs.Ytfpibdaedfilaaa.Pl
namespace Go.Proofs.Ytfpibdaedfilaaa.Wt
open Go.ChangeShapes Go.WideShapes Go.ChangeAt Go.RowKit
open Go.Proofs.Ytfpibdaedfilaaa.Pl
set_option linter.unusedVariables false
set_option linter.unusedSimpArgs false
set_option maxRecDepth 100000 in
theorem behind_any (v : Value) (l : List Int) (i : Nat) (b : Int) (w : World) (h : Nums w v l) (hl : l.length ≤ 12) (hi : i ≤ 100) :
  Calls Try.prog 98 #[v, .int .i64 (i : Int), .int .i64 b] w fun e w' => e = .returned (.tuple #[.int .i64 (behP l i b).1, .bool (behP l i b).2]) ∧ w = w' := by
 unfold behP
 by_cases hb : b = 0
 ·subst hb
  rw [if_pos rfl]
  clear h
  go_enter Try.func98, Try.ntmps98
  go_wp2
  exact bodyPost_ret (v := .tuple #[.int .i64 (i : Int), .bool true]) (by simp [results, Try.results98, go_sem, *]) rfl ⟨rfl, rfl⟩
 ·rw [if_neg hb]
  have HC : Hid (Calls Try.prog 99 #[v, .int .i64 (i : Int)] w fun e w' => e = .returned (.int .i64 (atW l i)) ∧ w = w') := labelAt_any v l i w h hl hi
  have hd : decide (i < l.length ∧ el l i = b) = decide (atW l i = b) := by
   unfold atW
   by_cases g : i < l.length
   ·rw [if_pos g]; simp [g]
   ·rw [if_neg g]; simp [g]; exact fun e => hb e.symm
  have k1 : IntKind.i64.wrap ((i : Int) + 1) = (i : Int) + 1 := wrapI (by omega) (by omega)
  simp only
  rw [hd]
  generalize atW l i = y at *
  clear h hd
  by_cases hy : y = b
  ·subst hy
   go_enter Try.func98, Try.ntmps98
   go_wp2_with (first | (go_at_call 99; (with_reducible refine HC.out.mono ?_); rintro e w' ⟨rfl, rfl⟩))
   exact bodyPost_ret (v := .tuple #[.int .i64 ((i : Int) + 1), .bool true]) (by simp [results, Try.results98, go_sem, *]) rfl ⟨by simp, rfl⟩
  ·go_enter Try.func98, Try.ntmps98
   go_wp2_with (first | (go_at_call 99; (with_reducible refine HC.out.mono ?_); rintro e w' ⟨rfl, rfl⟩))
   exact bodyPost_ret (v := .tuple #[.int .i64 ((i : Int) + 1), .bool false]) (by simp [results, Try.results98, go_sem, *]) rfl ⟨by simp [hy], rfl⟩
set_option maxRecDepth 100000 in
set_option maxHeartbeats 1600000 in
theorem along_any (vx vy : Value) (x y : List Int) (q i j : Nat) (a : Ar) (w : World) (hx : Nums w vx x) (hy : Nums w vy y) (hxl : x.length ≤ 12) (hyl : y.length ≤ 12) (hi : i ≤ 12) (hj : j ≤ 12) :
  Calls Try.prog 97 #[.agg #[.int .i64 (q : Int), .int .i64 (i : Int), .int .i64 (j : Int)], .agg #[.int .i64 a.1, .int .i64 a.2.1, .int .i64 a.2.2.1, .int .i64 a.2.2.2], vx, vy] w fun e w' => e = .returned (.tuple #[.agg #[.int .i64 a.2.2.2, .int .i64 (behP x i a.1).1, .int .i64 (behP y j a.2.1).1], .bool ((behP x i a.1).2 && (behP y j a.2.1).2)]) ∧ Below w.heap.size w w' := by
 obtain ⟨a0, a1, a2, a3⟩ := a
 simp only
 have HX : Hid (∀ W, Below w.heap.size w W → Calls Try.prog 98 #[vx, .int .i64 (i : Int), .int .i64 a0] W fun e w' => e = .returned (.tuple #[.int .i64 (behP x i a0).1, .bool (behP x i a0).2]) ∧ W = w') := fun W hW => behind_any vx x i a0 W (hx.later hW (Nat.le_refl _)) hxl (by omega)
 have HY : Hid (∀ W, Below w.heap.size w W → Calls Try.prog 98 #[vy, .int .i64 (j : Int), .int .i64 a1] W fun e w' => e = .returned (.tuple #[.int .i64 (behP y j a1).1, .bool (behP y j a1).2]) ∧ W = w') := fun W hW => behind_any vy y j a1 W (hy.later hW (Nat.le_refl _)) hyl (by omega)
 generalize behP x i a0 = rx at *
 generalize behP y j a1 = ry at *
 obtain ⟨r1, b1⟩ := rx
 obtain ⟨r2, b2⟩ := ry
 simp only at HX HY ⊢
 clear hx hy
 cases b1
 ·go_enter Try.func97, Try.ntmps97
  go_wp2_with (first
   | (go_at_call 98; (with_reducible refine (HX.out _ (by go_grown)).mono ?_); rintro e w' ⟨rfl, rfl⟩)
   | (go_at_call 98; (with_reducible refine (HY.out _ (by go_grown)).mono ?_); rintro e w' ⟨rfl, rfl⟩))
  exact bodyPost_ret (v := .tuple #[.agg #[.int .i64 a3, .int .i64 r1, .int .i64 r2], .bool false]) (by simp [results, Try.results97, go_sem, *]) rfl ⟨by simp, by go_grown⟩
 ·go_enter Try.func97, Try.ntmps97
  go_wp2_with (first
   | (go_at_call 98; (with_reducible refine (HX.out _ (by go_grown)).mono ?_); rintro e w' ⟨rfl, rfl⟩)
   | (go_at_call 98; (with_reducible refine (HY.out _ (by go_grown)).mono ?_); rintro e w' ⟨rfl, rfl⟩))
  exact bodyPost_ret (v := .tuple #[.agg #[.int .i64 a3, .int .i64 r1, .int .i64 r2], .bool b2]) (by simp [results, Try.results97, go_sem, *]) rfl ⟨by simp, by go_grown⟩
end Go.Proofs.Ytfpibdaedfilaaa.Wt
