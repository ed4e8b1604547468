/- What core.Check answers. -/
import Derived.Test.YtkeeiihaijhdoaaDad
import Derived.Test.YtkeeiihaijhdoaaDaa
namespace Go.Proofs.Ytkeeiihaijhdoaa.Wt
open Go.ChangeShapes Go.WideShapes Go.ChangeAt Go.RowKit
open Go.Proofs.Ytkeeiihaijhdoaa.Pl
set_option linter.unusedVariables false
theorem coreCheck_any (v : Value) (m : Mc) (w : World) (h : Mach w v m) (hok : okM m) (r : Int) (hr : faultM m = r) :
  Calls Try.prog 27 #[v] w fun e w' => e = .returned (.int .i64 r) ∧ Below w.heap.size w w' := by
 subst hr
 obtain ⟨z, l⟩ := m
 obtain ⟨vs, rfl, hS⟩ := h
 obtain ⟨a, cap, rfl⟩ := hS.sl
 have HM : Hid (Mach w (.agg #[.int .i64 z, .slice a l.length cap]) (z, l)) := ⟨_, rfl, hS⟩
 have HK : Hid (okM (z, l)) := hok
 have hnot : ∀ (x : Bool) (w : World), (Op.unary .not (.bool x)).run Try.prog w = .ok (.bool (!x)) w := fun _ _ => rfl
 clear hS hok
 simp only
 by_cases h60 : l.length ≤ 60
 ·have H60 : Hid (l.length ≤ 60) := h60
  by_cases h400 : arcN l ≤ 400
  ·have hsz : sizeB (z, l) = true := by simp [sizeB, h60, h400]
   generalize hr : rangeB (z, l) = r
   have HR : Hid (rangeB (z, l) = r) := hr
   have HF : Hid ((if r = true then (0 : Int) else 2) = faultM (z, l)) := by show _ = _; unfold faultM; rw [if_pos hsz, hr]
   clear hr hsz
   generalize hq : arcN l = q at *
   have HQ : Hid (arcN l = q) := hq
   clear hq
   have h4 : ¬ (400 : Int) < (q : Int) := by omega
   generalize hn : l.length = n at *
   have HN : Hid (l.length = n) := hn
   clear hn
   have h6 : ¬ (60 : Int) < (n : Int) := by omega
   cases r
   all_goals
    go_enter Try.func27, Try.ntmps27
    go_wp2_with (first
     | (go_at_call 49; (with_reducible refine (arcsOf_any _ (z, l) _ (HM.out.later (B := w.heap.size) (by go_grown) (Nat.le_refl _)) HK.out (by show l.length ≤ 60; rw [HN.out]; exact H60.out) q HQ.out).mono ?_); rintro e w1 ⟨rfl, hb⟩; obtain ⟨s1, b1, hb1⟩ := boxed hb (by simp); have c0 := b1.cell 0 (v := .int .i64 z) rfl; have c1 := b1.cell 1 (v := .slice a n cap) rfl; have HB : Hid (Below w.heap.size w w1) := hb1; clear b1 hb1 hb)
     | (go_at_call 50; (with_reducible refine (isInRange_any _ (z, l) _ (HM.out.later HB.out (Nat.le_refl _)) HK.out (by show l.length ≤ 60; rw [HN.out]; exact H60.out) _ HR.out).mono ?_); rintro e w2 ⟨rfl, hb⟩; have HB2 : Hid (Below w.heap.size w w2) := HB.out.trans (hb.mono HB.out.size); clear hb))
    go_ret
    exact ⟨ret_intK HF.out, HB2.out⟩
  ·have HF : Hid (faultM (z, l) = 1) := faultM_size (by simp [sizeB]; omega)
   generalize hq : arcN l = q at *
   have HQ : Hid (arcN l = q) := hq
   clear hq
   have h4 : (400 : Int) < (q : Int) := by omega
   generalize hn : l.length = n at *
   have HN : Hid (l.length = n) := hn
   clear hn
   have h6 : ¬ (60 : Int) < (n : Int) := by omega
   go_enter Try.func27, Try.ntmps27
   go_wp2_with (first
     | (go_at_call 49; (with_reducible refine (arcsOf_any _ (z, l) _ (HM.out.later (B := w.heap.size) (by go_grown) (Nat.le_refl _)) HK.out (by show l.length ≤ 60; rw [HN.out]; exact H60.out) q HQ.out).mono ?_); rintro e w1 ⟨rfl, hb⟩; obtain ⟨s1, b1, hb1⟩ := boxed hb (by simp); have HB : Hid (Below w.heap.size w w1) := hb1; clear b1 hb1 hb))
   go_ret
   exact ⟨ret_intK HF.out.symm, HB.out⟩
 ·have HF : Hid (faultM (z, l) = 1) := faultM_size (by simp [sizeB]; omega)
  have h6 : (60 : Int) < (l.length : Int) := by omega
  go_enter Try.func27, Try.ntmps27
  go_wp2
  go_ret
  exact ⟨ret_intK HF.out.symm, by go_grown⟩
end Go.Proofs.Ytkeeiihaijhdoaa.Wt
namespace Go.Proofs.Ytkeeiihaijhdoaa.Sm
open Go.Proofs.Ytkeeiihaijhdoaa.Pl
set_option linter.unusedVariables false
set_option linter.unusedSimpArgs false
abbrev Tbl := Int → Option Ky
def arcS (m : Mc) (q : Int) : List Ar := (el m.2 q.toNat).2
inductive Rch (m : Mc) (T : Tbl) : Int → Ky → Prop
 | base {q : Int} {x : Ky} : T q = some x → Rch m T q x
 | step {q : Int} {x : Ky} {a : Ar} : Rch m T q x → a ∈ arcS m q → a.1 = 0 → Rch m T a.2.2.2 (goA x a)
def LeT (K : Tbl) (p : Int) (x : Ky) : Prop := ∃ b, K p = some b ∧ leK b x
theorem LeT.le {K : Tbl} {p : Int} {x y : Ky} (h : LeT K p x) (h2 : leK x y) : LeT K p y := by
 obtain ⟨b, h0, h1⟩ := h
 exact ⟨b, h0, h1.trans h2⟩
def Clo (m : Mc) (T K : Tbl) : Prop := (∀ p b, K p = some b → Rch m T p b) ∧ ∀ p x, Rch m T p x → LeT K p x
theorem Clo.one {m : Mc} {T K L : Tbl} (h : Clo m T K) (g : Clo m T L) : K = L := by
 funext p
 rcases hk : K p with _ | b
 ·rcases hl : L p with _ | c
  ·rfl
  ·obtain ⟨b, h1, _⟩ := h.2 p c (g.1 p c hl)
   rw [hk] at h1; cases h1
 ·obtain ⟨c, h1, h2⟩ := g.2 p b (h.1 p b hk)
  obtain ⟨b', h3, h4⟩ := h.2 p c (g.1 p c h1)
  rw [hk, Option.some.injEq] at h3
  subst h3
  rw [h1, h2.anti h4]
theorem clo_of {m : Mc} {T K : Tbl} (h1 : ∀ p b, K p = some b → Rch m T p b) (h2 : ∀ p x, T p = some x → LeT K p x)
    (h3 : ∀ q b a, K q = some b → a ∈ arcS m q → a.1 = 0 → LeT K a.2.2.2 (goA b a)) : Clo m T K := by
  refine ⟨h1, fun p x h => ?_⟩
  induction h with
  | base h => exact h2 _ _ h
  | step h ha h0 ih =>
    obtain ⟨b, g1, g2⟩ := ih
    exact (h3 _ b _ g1 ha h0).le (g2.goA _)
def minO (o : Option Ky) (x : Ky) : Option Ky := match o with
 | none => some x
 | some b => if betB x b = true then some x else some b
theorem minO_le (o : Option Ky) (x : Ky) : ∃ b, minO o x = some b ∧ leK b x := by
 unfold minO
 rcases o with _ | b
 ·exact ⟨x, rfl, leK.refl x⟩
 ·by_cases h : betB x b = true
  ·exact ⟨x, by simp [h], leK.refl x⟩
  ·exact ⟨b, by simp [h], by unfold leK; simpa using h⟩
theorem minO_le2 {o : Option Ky} {x y : Ky} (h : o = some y) : ∃ b, minO o x = some b ∧ leK b y := by
 subst h
 unfold minO
 by_cases h : betB x y = true
 ·exact ⟨x, by simp [h], betB_le h⟩
 ·exact ⟨y, by simp [h], leK.refl y⟩
theorem minO_or {o : Option Ky} {x y : Ky} (h : minO o x = some y) : o = some y ∨ y = x := by
 unfold minO at h
 rcases o with _ | b
 ·simp at h; exact .inr h.symm
 ·by_cases g : betB x b = true
  ·simp [g] at h; exact .inr h.symm
  ·simp [g] at h; exact .inl (by rw [h])
def putT (O : Tbl) (p : Int) (x : Ky) : Tbl := fun q => if q = p then minO (O p) x else O q
def setT (K : Tbl) (p : Int) (x : Ky) : Tbl := fun q => if q = p then some x else K q
def delT (O : Tbl) (p : Int) : Tbl := fun q => if q = p then none else O q
theorem putT_at (O : Tbl) (p : Int) (x : Ky) : LeT (putT O p x) p x := by
 obtain ⟨b, h1, h2⟩ := minO_le (O p) x
 exact ⟨b, by unfold putT; rw [if_pos rfl]; exact h1, h2⟩
theorem putT_old {O : Tbl} {q : Int} {y : Ky} (p : Int) (x : Ky) (h : O q = some y) : LeT (putT O p x) q y := by
 by_cases e : q = p
 ·subst e
  obtain ⟨b, h1, h2⟩ := minO_le2 (x := x) h
  exact ⟨b, by unfold putT; rw [if_pos rfl]; exact h1, h2⟩
 ·exact ⟨y, by unfold putT; rw [if_neg e]; exact h, leK.refl y⟩
theorem putT_leT {O : Tbl} {q : Int} {y : Ky} (p : Int) (x : Ky) (h : LeT O q y) : LeT (putT O p x) q y := by
 obtain ⟨b, h1, h2⟩ := h
 exact (putT_old p x h1).le h2
theorem putT_or {O : Tbl} {p q : Int} {x y : Ky} (h : putT O p x q = some y) : O q = some y ∨ (q = p ∧ y = x) := by
 unfold putT at h
 by_cases e : q = p
 ·rw [if_pos e] at h
  subst e
  rcases minO_or h with h | h
  ·exact .inl h
  ·exact .inr ⟨rfl, h⟩
 ·rw [if_neg e] at h; exact .inl h
def pshA (K : Tbl) (x : Ky) (O : Tbl) (a : Ar) : Tbl := if K a.2.2.2 = none ∧ a.1 = 0 then putT O a.2.2.2 (goA x a) else O
def pshT (K : Tbl) (x : Ky) (O : Tbl) (l : List Ar) : Tbl := l.foldl (pshA K x) O
theorem pshT_take {K : Tbl} {x : Ky} {O : Tbl} {l : List Ar} {i : Nat} (h : i < l.length) : pshT K x O (l.take (i + 1)) = pshA K x (pshT K x O (l.take i)) (el l i) := by
 unfold pshT
 rw [take_el h, List.foldl_append]; rfl
theorem pshA_leT {K : Tbl} {x : Ky} {O : Tbl} {q : Int} {y : Ky} (a : Ar) (h : LeT O q y) : LeT (pshA K x O a) q y := by
 unfold pshA
 split
 ·exact putT_leT _ _ h
 ·exact h
theorem pshT_leT {K : Tbl} {x : Ky} {q : Int} {y : Ky} : ∀ (l : List Ar) {O : Tbl}, LeT O q y → LeT (pshT K x O l) q y
 | [], _, h => h
 | a :: l, O, h => pshT_leT l (O := pshA K x O a) (pshA_leT a h)
theorem pshT_at {K : Tbl} {x : Ky} : ∀ (l : List Ar) {O : Tbl} {a : Ar}, a ∈ l → a.1 = 0 → K a.2.2.2 = none → LeT (pshT K x O l) a.2.2.2 (goA x a)
  | b :: l, O, a, h, h0, h1 => by
    rcases List.mem_cons.1 h with rfl | h
    · refine pshT_leT l (O := pshA K x O a) ?_
      unfold pshA
      rw [if_pos ⟨h1, h0⟩]
      exact putT_at _ _ _
    · exact pshT_at l (O := pshA K x O b) h h0 h1
theorem pshT_or {K : Tbl} {x : Ky} {q : Int} {y : Ky} : ∀ (l : List Ar) {O : Tbl}, pshT K x O l q = some y → O q = some y ∨ (K q = none ∧ ∃ a ∈ l, a.1 = 0 ∧ a.2.2.2 = q ∧ y = goA x a)
  | [], _, h => .inl h
  | a :: l, O, h => by
    rcases pshT_or l (O := pshA K x O a) h with h | ⟨h1, b, h2, h3⟩
    · unfold pshA at h
      by_cases c : K a.2.2.2 = none ∧ a.1 = 0
      · rw [if_pos c] at h
        rcases putT_or h with h9 | ⟨e, h9⟩
        · exact .inl h9
        · subst e
          exact .inr ⟨c.1, a, List.mem_cons_self, c.2, rfl, h9⟩
      · rw [if_neg c] at h; exact .inl h
    · exact .inr ⟨h1, b, List.mem_cons_of_mem _ h2, h3⟩
structure Djk (m : Mc) (T K O : Tbl) : Prop where
 kr : ∀ p b, K p = some b → Rch m T p b
 or_ : ∀ p x, O p = some x → Rch m T p x
 st : ∀ p x, T p = some x → LeT K p x ∨ LeT O p x
 ar : ∀ q b a, K q = some b → a ∈ arcS m q → a.1 = 0 → LeT K a.2.2.2 (goA b a) ∨ LeT O a.2.2.2 (goA b a)
 fr : ∀ q p b x, K q = some b → O p = some x → leK b x
theorem Djk.start (m : Mc) (T : Tbl) : Djk m T (fun _ => none) T :=
 ⟨by simp, fun p x h => .base h, fun p x h => .inr ⟨x, h, leK.refl x⟩, by simp, by simp⟩
theorem Djk.fin {m : Mc} {T K O : Tbl} (h : Djk m T K O) (h0 : ∀ p, O p = none) : Clo m T K := by
 have hn : ∀ p x, ¬ LeT O p x := by
  rintro p x ⟨b, h1, _⟩
  rw [h0] at h1; cases h1
 exact clo_of h.kr (fun p x g => (h.st p x g).resolve_right (hn _ _)) fun q b a g1 g2 g3 => (h.ar q b a g1 g2 g3).resolve_right (hn _ _)
theorem Djk.step {m : Mc} {T K O : Tbl} (h : Djk m T K O) {q : Int} {x : Ky} (hx : O q = some x) (hm : ∀ p y, O p = some y → leK x y) (hK : K q = none) (hw : ∀ a ∈ arcS m q, 0 ≤ a.2.2.1) :
  Djk m T (setT K q x) (pshT (setT K q x) x (delT O q) (arcS m q)) := by
 have hs : ∀ p b, setT K q x p = some b → (p = q ∧ b = x) ∨ K p = some b := by
  intro p b h0
  unfold setT at h0
  by_cases e : p = q
  ·rw [if_pos e, Option.some.injEq] at h0; exact .inl ⟨e, h0.symm⟩
  ·rw [if_neg e] at h0; exact .inr h0
 have hset : setT K q x q = some x := by unfold setT; rw [if_pos rfl]
 have hle : ∀ p y, LeT K p y → LeT (setT K q x) p y := by
  rintro p y ⟨b, h0, h1⟩
  have e : p ≠ q := by rintro rfl; rw [hK] at h0; cases h0
  exact ⟨b, by unfold setT; rw [if_neg e]; exact h0, h1⟩
 have hdel : ∀ p y, LeT O p y → LeT (setT K q x) p y ∨ LeT (delT O q) p y := by
  rintro p y ⟨b, h0, h1⟩
  by_cases e : p = q
  ·subst e
   rw [hx, Option.some.injEq] at h0
   subst h0
   exact .inl ⟨x, hset, h1⟩
  ·exact .inr ⟨b, by unfold delT; rw [if_neg e]; exact h0, h1⟩
 have hd : ∀ p y, delT O q p = some y → O p = some y := by
  intro p y h0
  unfold delT at h0
  split at h0
  ·cases h0
  ·exact h0
 have hrx := h.or_ q x hx
 refine ⟨?_, ?_, ?_, ?_, ?_⟩
 ·intro p b h0
  rcases hs p b h0 with ⟨rfl, rfl⟩ | h0
  ·exact hrx
  ·exact h.kr p b h0
 ·intro p y h0
  rcases pshT_or _ h0 with h0 | ⟨_, a, ha, h1, rfl, rfl⟩
  ·exact h.or_ p y (hd p y h0)
  ·exact .step hrx ha h1
 ·intro p y h0
  rcases h.st p y h0 with h1 | h1
  ·exact .inl (hle p y h1)
  ·rcases hdel p y h1 with h2 | h2
   ·exact .inl h2
   ·exact .inr (pshT_leT _ h2)
 ·intro p b a h0 ha h1
  rcases hs p b h0 with ⟨rfl, rfl⟩ | h0
  ·by_cases hn : setT K p b a.2.2.2 = none
   ·exact .inr (pshT_at _ ha h1 hn)
   ·obtain ⟨c, hc⟩ := Option.ne_none_iff_exists'.1 hn
    refine .inl ⟨c, hc, ?_⟩
    have hxa := leK_goA b (hw a ha)
    rcases hs _ _ hc with ⟨_, rfl⟩ | hc
    ·exact hxa
    ·exact (h.fr _ _ _ _ hc hx).trans hxa
  ·rcases h.ar p b a h0 ha h1 with h2 | h2
   ·exact .inl (hle _ _ h2)
   ·rcases hdel _ _ h2 with h3 | h3
    ·exact .inl h3
    ·exact .inr (pshT_leT _ h3)
 ·intro p p2 b y h0 h1
  have hxy : leK x y := by
   rcases pshT_or _ h1 with h1 | ⟨_, a, ha, _, _, rfl⟩
   ·exact hm _ _ (hd _ _ h1)
   ·exact leK_goA x (hw a ha)
  rcases hs p b h0 with ⟨rfl, rfl⟩ | h0
  ·exact hxy
  ·exact (h.fr _ _ _ _ h0 hx).trans hxy
def Stp (m : Mc) : Int → List Ar → Int → Prop
 | q, [], p => q = p
 | q, a :: l, p => a ∈ arcS m q ∧ a.1 = 0 ∧ Stp m a.2.2.2 l p
def goP (x : Ky) (l : List Ar) : Ky := l.foldl goA x
theorem Stp.snoc {m : Mc} {a : Ar} : ∀ {l : List Ar} {q p : Int}, Stp m q l p → a ∈ arcS m p → a.1 = 0 → Stp m q (l ++ [a]) a.2.2.2
  | [], q, p, h, h1, h2 => by
    have : q = p := h
    subst this
    exact ⟨h1, h2, rfl⟩
  | b :: l, q, p, h, h1, h2 => ⟨h.1, h.2.1, Stp.snoc h.2.2 h1 h2⟩
theorem rch_way {m : Mc} {T : Tbl} {p : Int} {x : Ky} (h : Rch m T p x) : ∃ q y l, T q = some y ∧ Stp m q l p ∧ x = goP y l := by
  induction h with
  | base h => exact ⟨_, _, [], h, rfl, rfl⟩
  | step h ha h0 ih =>
    obtain ⟨q, y, l, h1, h2, h3⟩ := ih
    exact ⟨q, y, l ++ [_], h1, h2.snoc ha h0, by unfold goP at *; rw [List.foldl_append, ← h3]; rfl⟩
theorem leK_goP {m : Mc} (hw : ∀ q a, a ∈ arcS m q → 0 ≤ a.2.2.1) : ∀ {l : List Ar} {q p : Int} (x : Ky), Stp m q l p → leK x (goP x l)
 | [], _, _, x, _ => leK.refl x
 | a :: l, q, p, x, h => (leK_goA x (hw q a h.1)).trans (leK_goP hw (goA x a) h.2.2)
theorem goP_mono {x y : Ky} (h : leK x y) : ∀ l : List Ar, leK (goP x l) (goP y l)
 | [] => h
 | a :: l => goP_mono (h.goA a) l
theorem stp_suf {m : Mc} {q : Int} : ∀ {l : List Ar} {r p : Int}, Stp m r l p → q ∈ l.map (fun a => a.2.2.2) → ∃ l1 l2, l = l1 ++ l2 ∧ l2.length < l.length ∧ Stp m r l1 q ∧ Stp m q l2 p
  | a :: l, r, p, h, hq => by
    rw [List.map_cons, List.mem_cons] at hq
    by_cases e : q = a.2.2.2
    · subst e
      exact ⟨[a], l, rfl, by simp, ⟨h.1, h.2.1, rfl⟩, h.2.2⟩
    · obtain ⟨l1, l2, h1, h2, h3, h4⟩ := stp_suf h.2.2 (hq.resolve_left e)
      exact ⟨a :: l1, l2, by rw [h1]; rfl, by simp; omega, ⟨h.1, h.2.1, h3⟩, h4⟩
theorem stp_cut {m : Mc} (hw : ∀ q a, a ∈ arcS m q → 0 ≤ a.2.2.1) : ∀ {l : List Ar} {q p : Int}, Stp m q l p → (q :: l.map fun a => a.2.2.2).Nodup ∨ ∃ l', Stp m q l' p ∧ l'.length < l.length ∧ ∀ x, leK (goP x l') (goP x l)
  | [], q, p, h => .inl (by simp)
  | a :: l, q, p, h => by
    rcases stp_cut hw h.2.2 with h1 | ⟨l', h1, h2, h3⟩
    · by_cases hq : q ∈ (a :: l).map fun a => a.2.2.2
      · obtain ⟨l1, l2, g1, g2, g3, g4⟩ := stp_suf h hq
        refine .inr ⟨l2, g4, g2, fun x => ?_⟩
        rw [g1]
        unfold goP
        rw [List.foldl_append]
        exact goP_mono (leK_goP hw x g3) l2
      · exact .inl (List.nodup_cons.2 ⟨hq, h1⟩)
    · exact .inr ⟨a :: l', ⟨h.1, h.2.1, h1⟩, by simp; omega, fun x => h3 (goA x a)⟩
theorem few {α : Type} [DecidableEq α] : ∀ {L U : List α}, L.Nodup → (∀ t ∈ L, t ∈ U) → L.length ≤ U.length
  | [], U, _, _ => Nat.zero_le _
  | x :: L, U, h, hs => by
    rw [List.nodup_cons] at h
    have hx := hs x List.mem_cons_self
    have h1 := few (L := L) (U := U.erase x) h.2 (fun t ht => by
      have : t ≠ x := fun e => h.1 (e ▸ ht)
      exact (List.mem_erase_of_ne this).2 (hs t (List.mem_cons_of_mem _ ht)))
    have h2 := List.length_erase_of_mem hx
    have h3 : 0 < U.length := List.length_pos_of_mem hx
    simp only [List.length_cons]
    omega
theorem few_below {n : Nat} {L : List Int} (h : L.Nodup) (hb : ∀ t ∈ L, 0 ≤ t ∧ t < n) : L.length ≤ n := by
 have := few (U := (List.range n).map Int.ofNat) h (fun t ht => by
  obtain ⟨h1, h2⟩ := hb t ht
  exact List.mem_map.2 ⟨t.toNat, List.mem_range.2 (by omega), by show ((t.toNat : Nat) : Int) = t; omega⟩)
 simpa using this
def ArcsOk (m : Mc) (n : Nat) : Prop := ∀ q a, a ∈ arcS m q → 0 ≤ a.2.2.1 ∧ 0 ≤ a.2.2.2 ∧ a.2.2.2 < n
theorem stp_short {m : Mc} {n : Nat} (hw : ArcsOk m n) : ∀ (k : Nat) {l : List Ar} {q p : Int}, l.length ≤ k → 0 ≤ q → q < n → Stp m q l p → ∃ l', Stp m q l' p ∧ l'.length < n ∧ ∀ x, leK (goP x l') (goP x l)
  | 0, l, q, p, hk, h0, h1, h => ⟨l, h, by omega, fun x => leK.refl _⟩
  | k + 1, l, q, p, hk, h0, h1, h => by
    rcases stp_cut (fun q a ha => (hw q a ha).1) h with g | ⟨l', g1, g2, g3⟩
    · refine ⟨l, h, ?_, fun x => leK.refl _⟩
      have hb : ∀ {l : List Ar} {q p : Int}, Stp m q l p → ∀ t : Int, t ∈ l.map (fun a => a.2.2.2) → 0 ≤ t ∧ t < (n : Int) := by
        intro l
        induction l with
        | nil => intro q p _ t ht; simp at ht
        | cons a l ih =>
          intro q p h t ht
          rw [List.map_cons, List.mem_cons] at ht
          rcases ht with rfl | ht
          · exact (hw q a h.1).2
          · exact ih h.2.2 t ht
      have := few_below g (n := n) (fun t ht => by
        rcases List.mem_cons.1 ht with rfl | ht
        · exact ⟨h0, h1⟩
        · exact hb h t ht)
      simp at this
      omega
    · obtain ⟨l2, f1, f2, f3⟩ := stp_short hw k (l := l') (by omega) h0 h1 g1
      exact ⟨l2, f1, f2, fun x => (f3 x).trans (g3 x)⟩
def rndS (m : Mc) (T N : Tbl) (q : Int) : Tbl := match T q with
 | none => N
 | some x => pshT (fun _ => none) x (putT N q x) (arcS m q)
def rndT (m : Mc) (T : Tbl) (l : List Int) : Tbl := l.foldl (rndS m T) (fun _ => none)
theorem rndS_leT {m : Mc} {T N : Tbl} {p : Int} {y : Ky} (q : Int) (h : LeT N p y) : LeT (rndS m T N q) p y := by
 unfold rndS
 split
 ·exact h
 ·exact pshT_leT _ (putT_leT _ _ h)
theorem rndF_leT {m : Mc} {T : Tbl} {p : Int} {y : Ky} : ∀ (l : List Int) {N : Tbl}, LeT N p y → LeT (l.foldl (rndS m T) N) p y
 | [], _, h => h
 | q :: l, N, h => rndF_leT l (N := rndS m T N q) (rndS_leT q h)
theorem rndF_at {m : Mc} {T : Tbl} {q : Int} {x : Ky} (hx : T q = some x) : ∀ (l : List Int) {N : Tbl}, q ∈ l → LeT (l.foldl (rndS m T) N) q x ∧ ∀ a ∈ arcS m q, a.1 = 0 → LeT (l.foldl (rndS m T) N) a.2.2.2 (goA x a)
  | r :: l, N, h => by
    by_cases e : q = r
    · subst e
      constructor
      · refine rndF_leT l (N := rndS m T N q) ?_
        unfold rndS
        rw [hx]
        exact pshT_leT _ (putT_at _ _ _)
      · intro a ha h0
        refine rndF_leT l (N := rndS m T N q) ?_
        unfold rndS
        rw [hx]
        exact pshT_at _ ha h0 rfl
    · exact rndF_at hx l (N := rndS m T N r) ((List.mem_cons.1 h).resolve_left e)
theorem rndF_or {m : Mc} {T : Tbl} {p : Int} {y : Ky} : ∀ (l : List Int) {N : Tbl}, l.foldl (rndS m T) N p = some y → N p = some y ∨ T p = some y ∨ ∃ q x a, T q = some x ∧ a ∈ arcS m q ∧ a.1 = 0 ∧ p = a.2.2.2 ∧ y = goA x a
  | [], _, h => .inl h
  | q :: l, N, h => by
    rcases rndF_or l (N := rndS m T N q) h with h | h
    · unfold rndS at h
      rcases hx : T q with _ | x
      · rw [hx] at h; exact .inl h
      · rw [hx] at h
        rcases pshT_or _ h with h | ⟨_, a, h1, h2, h3, h4⟩
        · rcases putT_or h with h | ⟨rfl, rfl⟩
          · exact .inl h
          · exact .inr (.inl hx)
        · exact .inr (.inr ⟨q, x, a, hx, h1, h2, h3.symm, h4⟩)
    · exact .inr h
def stsN (n : Nat) : List Int := (List.range n).map Int.ofNat
theorem mem_stsN {n : Nat} {q : Int} : q ∈ stsN n ↔ 0 ≤ q ∧ q < n := by
 unfold stsN
 rw [List.mem_map]
 constructor
 ·rintro ⟨k, h, rfl⟩
  rw [List.mem_range] at h
  exact ⟨by show (0 : Int) ≤ (k : Int); omega, by show (k : Int) < n; omega⟩
 ·rintro ⟨h1, h2⟩
  exact ⟨q.toNat, List.mem_range.2 (by omega), by show ((q.toNat : Nat) : Int) = q; omega⟩
def itT (m : Mc) (n : Nat) (T : Tbl) : Nat → Tbl
 | 0 => T
 | k + 1 => rndT m (itT m n T k) (stsN n)
theorem itT_rch {m : Mc} {n : Nat} {T : Tbl} : ∀ (k : Nat) {p : Int} {y : Ky}, itT m n T k p = some y → Rch m T p y
  | 0, p, y, h => .base h
  | k + 1, p, y, h => by
    rcases rndF_or _ h with h | h | ⟨q, x, a, h1, h2, h3, rfl, rfl⟩
    · cases h
    · exact itT_rch k h
    · exact .step (itT_rch k h1) h2 h3
def DomT (n : Nat) (T : Tbl) : Prop := ∀ q x, T q = some x → 0 ≤ q ∧ q < n
theorem Rch.dom {m : Mc} {n : Nat} {T : Tbl} (hT : DomT n T) (hw : ArcsOk m n) {p : Int} {x : Ky} (h : Rch m T p x) : 0 ≤ p ∧ p < n := by
 cases h with
 | base h => exact hT _ _ h
 | step h ha h0 => exact (hw _ _ ha).2
theorem itT_dom {m : Mc} {n : Nat} {T : Tbl} (hT : DomT n T) (hw : ArcsOk m n) (k : Nat) : DomT n (itT m n T k) := fun q x h => (itT_rch k h).dom hT hw
theorem itT_le {m : Mc} {n : Nat} {T : Tbl} (hT : DomT n T) (hw : ArcsOk m n) {q : Int} {x : Ky} (hx : T q = some x) : ∀ (k : Nat) {l : List Ar} {p : Int}, l.length ≤ k → Stp m q l p → LeT (itT m n T k) p (goP x l)
  | 0, l, p, hk, h => by
    obtain rfl : l = [] := List.eq_nil_of_length_eq_zero (by omega)
    have : q = p := h
    subst this
    exact ⟨x, hx, leK.refl x⟩
  | k + 1, l, p, hk, h => by
    rcases List.eq_nil_or_concat l with rfl | ⟨l', a, rfl⟩
    · obtain ⟨b, h1, h2⟩ := itT_le hT hw hx k (l := []) (by simp) h
      exact (rndF_at h1 _ (mem_stsN.2 (itT_dom hT hw k _ _ h1))).1.le h2
    · rw [List.concat_eq_append] at h hk ⊢
      have hs : ∀ {l : List Ar} {q : Int}, Stp m q (l ++ [a]) p → ∃ r, Stp m q l r ∧ a ∈ arcS m r ∧ a.1 = 0 ∧ p = a.2.2.2 := by
        intro l
        induction l with
        | nil => intro q h; exact ⟨q, rfl, h.1, h.2.1, h.2.2.symm⟩
        | cons b l ih =>
          intro q h
          obtain ⟨r, h1, h2⟩ := ih h.2.2
          exact ⟨r, ⟨h.1, h.2.1, h1⟩, h2⟩
      obtain ⟨r, h1, h2, h3, rfl⟩ := hs h
      obtain ⟨b, g1, g2⟩ := itT_le hT hw hx k (l := l') (by simp at hk; omega) h1
      have g3 := (rndF_at g1 _ (mem_stsN.2 (itT_dom hT hw k _ _ g1)) (N := fun _ => none)).2 a h2 h3
      unfold goP at g2 ⊢
      rw [List.foldl_append]
      exact g3.le (g2.goA a)
theorem itT_clo {m : Mc} {n : Nat} {T : Tbl} (hT : DomT n T) (hw : ArcsOk m n) : Clo m T (itT m n T n) := by
 refine ⟨fun p b h => itT_rch n h, fun p x h => ?_⟩
 obtain ⟨q, y, l, h1, h2, rfl⟩ := rch_way h
 obtain ⟨h3, h4⟩ := hT q y h1
 obtain ⟨l', g1, g2, g3⟩ := stp_short hw l.length (Nat.le_refl _) h3 h4 h2
 exact (itT_le hT hw h1 n (by omega) g1).le (g3 y)
theorem arcs_rng {m : Mc} (hf : faultM m = 0) {q : Int} {a : Ar} (h : a ∈ arcS m q) : 0 ≤ a.1 ∧ 0 ≤ a.2.1 ∧ a.2.1 ≤ 1000 ∧ 0 ≤ a.2.2.1 ∧ a.2.2.1 ≤ 1000000000 ∧ 0 ≤ a.2.2.2 ∧ a.2.2.2 < m.2.length := by
 obtain ⟨z, l⟩ := m
 unfold arcS at h
 by_cases hq : q.toNat < l.length
 ·have h1 := List.all_eq_true.1 (right_st hf hq).2 a h
  simp only [arcB, inB, Bool.and_eq_true, decide_eq_true_eq] at h1
  simp only
  omega
 ·have : el l q.toNat = default := by
   simp [el, List.getD_eq_getElem?_getD, List.getElem?_eq_none (show l.length ≤ q.toNat by omega)]
  simp only [this] at h
  exact absurd h (by simp [default, Inhabited.default])
theorem arcs_ok {m : Mc} (hf : faultM m = 0) : ArcsOk m m.2.length := fun q a h => by
 have := arcs_rng hf h
 omega
def BndT (A : Int) (L : Nat) (T : Tbl) : Prop := ∀ q x, T q = some x → 0 ≤ x.1 ∧ x.1 ≤ A ∧ x.2.length ≤ L
theorem goA_len (k : Ky) (a : Ar) : (goA k a).2.length ≤ k.2.length + 1 := by
 unfold goA
 simp only
 split <;> simp
structure DjI (m : Mc) (T : Tbl) (A : Int) (L : Nat) (K O : Tbl) (c : Nat) : Prop where
 dj : Djk m T K O
 dis : ∀ q x, K q = some x → O q = none
 dK : DomT m.2.length K
 dO : DomT m.2.length O
 bK : BndT (A + 1000000000 * c) (L + c) K
 bO : BndT (A + 1000000000 * c) (L + c) O
theorem DjI.start {m : Mc} {T : Tbl} {A : Int} {L : Nat} (hT : DomT m.2.length T) (hb : BndT A L T) : DjI m T A L (fun _ => none) T 0 :=
 ⟨Djk.start m T, (by intro q x h; cases h), (by intro q x h; cases h), hT, (by intro q x h; cases h), by simpa using hb⟩
theorem delT_some {O : Tbl} {q p : Int} {y : Ky} (h : delT O q p = some y) : p ≠ q ∧ O p = some y := by
 unfold delT at h
 by_cases e : p = q
 ·rw [if_pos e] at h; cases h
 ·rw [if_neg e] at h; exact ⟨e, h⟩
theorem setT_some {K : Tbl} {q p : Int} {x y : Ky} (h : setT K q x p = some y) : (p = q ∧ y = x) ∨ (p ≠ q ∧ K p = some y) := by
 unfold setT at h
 by_cases e : p = q
 ·rw [if_pos e, Option.some.injEq] at h; exact .inl ⟨e, h.symm⟩
 ·rw [if_neg e] at h; exact .inr ⟨e, h⟩
theorem DjI.step {m : Mc} {T : Tbl} {A : Int} {L c : Nat} {K O : Tbl} (h : DjI m T A L K O c) (hf : faultM m = 0) {q : Int} {x : Ky} (hx : O q = some x) (hm : ∀ p y, O p = some y → leK x y) :
  DjI m T A L (setT K q x) (pshT (setT K q x) x (delT O q) (arcS m q)) (c + 1) := by
 have hKq : K q = none := by
  rcases hk : K q with _ | y
  ·rfl
  ·rw [h.dis q y hk] at hx; cases hx
 have hxb := h.bO q x hx
 have hup : (1000000000 : Int) * ((c + 1 : Nat) : Int) = 1000000000 * (c : Int) + 1000000000 := by rw [Int.natCast_add, Int.mul_add]; rfl
 have hO : ∀ p y, pshT (setT K q x) x (delT O q) (arcS m q) p = some y → (p ≠ q ∧ O p = some y) ∨ (setT K q x p = none ∧ ∃ a ∈ arcS m q, a.1 = 0 ∧ a.2.2.2 = p ∧ y = goA x a) := by
  intro p y hp
  rcases pshT_or _ hp with g | g
  ·exact .inl (delT_some g)
  ·exact .inr g
 refine ⟨h.dj.step hx hm hKq (fun a ha => (arcs_rng hf ha).2.2.2.1), ?_, ?_, ?_, ?_, ?_⟩
 ·intro p y hp
  rcases hpo : pshT (setT K q x) x (delT O q) (arcS m q) p with _ | y2
  ·rfl
  ·rcases hO p y2 hpo with ⟨e, g⟩ | ⟨g, _⟩
   ·rcases setT_some hp with ⟨e2, _⟩ | ⟨_, g2⟩
    ·exact absurd e2 e
    ·rw [h.dis p y g2] at g; cases g
   ·rw [g] at hp; cases hp
 ·intro p y hp
  rcases setT_some hp with ⟨rfl, _⟩ | ⟨_, g⟩
  ·exact h.dO _ _ hx
  ·exact h.dK p y g
 ·intro p y hp
  rcases hO p y hp with ⟨_, g⟩ | ⟨_, a, ha, _, rfl, _⟩
  ·exact h.dO p y g
  ·exact ⟨(arcs_rng hf ha).2.2.2.2.2.1, (arcs_rng hf ha).2.2.2.2.2.2⟩
 ·intro p y hp
  rcases setT_some hp with ⟨_, rfl⟩ | ⟨_, g⟩
  ·omega
  ·have := h.bK p y g
   omega
 ·intro p y hp
  rcases hO p y hp with ⟨_, g⟩ | ⟨_, a, ha, _, _, rfl⟩
  ·have := h.bO p y g
   omega
  ·have h1 := arcs_rng hf ha
   have h2 := goA_len x a
   have h3 : (goA x a).1 = x.1 + a.2.2.1 := rfl
   omega
def MinT (S : Int → Ky → Prop) (O : Tbl) : Prop := (∀ p y, O p = some y → S p y) ∧ ∀ p y, S p y → LeT O p y
theorem MinT.one {S : Int → Ky → Prop} {O P : Tbl} (h : MinT S O) (g : MinT S P) : O = P := by
 funext p
 rcases hk : O p with _ | b
 ·rcases hl : P p with _ | c
  ·rfl
  ·obtain ⟨b, h1, _⟩ := h.2 p c (g.1 p c hl)
   rw [hk] at h1; cases h1
 ·obtain ⟨c, h1, h2⟩ := g.2 p b (h.1 p b hk)
  obtain ⟨b', h3, h4⟩ := h.2 p c (g.1 p c h1)
  rw [hk, Option.some.injEq] at h3
  subst h3
  rw [h1, h2.anti h4]
theorem MinT.put {S : Int → Ky → Prop} {O : Tbl} (h : MinT S O) (q : Int) (x : Ky) : MinT (fun p y => S p y ∨ (p = q ∧ y = x)) (putT O q x) := by
 refine ⟨fun p y hp => ?_, fun p y hp => ?_⟩
 ·rcases putT_or hp with g | g
  ·exact .inl (h.1 p y g)
  ·exact .inr g
 ·rcases hp with g | ⟨rfl, rfl⟩
  ·exact putT_leT _ _ (h.2 p y g)
  ·exact putT_at _ _ _
theorem MinT.same {S S' : Int → Ky → Prop} {O : Tbl} (h : MinT S O) (e : ∀ p y, S p y ↔ S' p y) : MinT S' O :=
 ⟨fun p y hp => (e p y).1 (h.1 p y hp), fun p y hp => h.2 p y ((e p y).2 hp)⟩
def StpL (m : Mc) (K : Tbl) (l : Int) (p : Int) (y : Ky) : Prop := ∃ q x a, K q = some x ∧ a ∈ arcS m q ∧ a.1 = l ∧ p = a.2.2.2 ∧ y = goA x a
def ordL (n : Nat) (T : Tbl) : List Mk := (List.range n).filterMap fun q : Nat => (T (q : Int)).map fun k => ((q : Int), k)
theorem ordL_succ (n : Nat) (T : Tbl) : ordL (n + 1) T = ordL n T ++ (match T (n : Int) with | none => [] | some k => [((n : Int), k)]) := by
 unfold ordL
 rw [List.range_succ, List.filterMap_append]
 rcases h : T (n : Int) with _ | k <;> simp [List.filterMap, h]
def OverT (T : Tbl) : Prop := ∃ q k, T q = some k ∧ 1000000000 < k.1
def startT (m : Mc) : Tbl := fun q => if 0 ≤ m.1 ∧ q = m.1 then some (0, []) else none
theorem startT_dom {m : Mc} (h : m.1 < m.2.length) : DomT m.2.length (startT m) := by
 intro q x hx
 unfold startT at hx
 by_cases e : 0 ≤ m.1 ∧ q = m.1
 ·omega
 ·rw [if_neg e] at hx; cases hx
theorem startT_bnd (m : Mc) : BndT 0 0 (startT m) := by
 intro q x hx
 unfold startT at hx
 by_cases e : 0 ≤ m.1 ∧ q = m.1
 ·rw [if_pos e, Option.some.injEq] at hx
  subst hx
  simp
 ·rw [if_neg e] at hx; cases hx
theorem startT_none {m : Mc} (h : m.1 < 0) : startT m = fun _ => none := by
 funext q; unfold startT; rw [if_neg (by omega)]
theorem startT_put {m : Mc} (h : 0 ≤ m.1) : startT m = putT (fun _ => none) m.1 (0, []) := by
 funext q; unfold startT putT minO
 by_cases e : q = m.1
 ·rw [if_pos ⟨h, e⟩, if_pos e]
 ·rw [if_neg (fun g => e g.2), if_neg e]
def BegAns (m : Mc) (r : Ru) (ec : Int) : Prop :=
 (faultM m ≠ 0 ∧ r = (0, []) ∧ ec = faultM m) ∨ (faultM m = 0 ∧ ∃ K, Clo m (startT m) K ∧ ((OverT K ∧ r = (0, []) ∧ ec = 4) ∨ (¬ OverT K ∧ r = (0, ordL m.2.length K) ∧ ec = 0)))
theorem start_rng {m : Mc} (hf : faultM m = 0) : -1 ≤ m.1 ∧ m.1 < m.2.length := by
 have h := (faultM_zero hf).2
 simp only [rangeB, inB, Bool.and_eq_true, decide_eq_true_eq] at h
 omega
inductive FedT (m : Mc) : Tbl → List Int → Option Tbl → Prop
 | nil (K : Tbl) : FedT m K [] (some K)
 | over {K O K' : Tbl} {x : Int} {l : List Int} : MinT (StpL m K x) O → Clo m O K' → OverT K' → FedT m K (x :: l) none
 | on {K O K' : Tbl} {x : Int} {l : List Int} {r : Option Tbl} : MinT (StpL m K x) O → Clo m O K' → ¬ OverT K' → FedT m K' l r → FedT m K (x :: l) r
theorem FedT.one {m : Mc} : ∀ {l : List Int} {K : Tbl} {r s : Option Tbl}, FedT m K l r → FedT m K l s → r = s
  | [], _, _, _, .nil _, .nil _ => rfl
  | x :: l, _, _, _, .over a1 a2 a3, .over b1 b2 b3 => rfl
  | x :: l, _, _, _, .over a1 a2 a3, .on b1 b2 b3 b4 => by
    have e := a1.one b1
    subst e
    have e := a2.one b2
    subst e
    exact absurd a3 b3
  | x :: l, _, _, _, .on b1 b2 b3 b4, .over a1 a2 a3 => by
    have e := a1.one b1
    subst e
    have e := a2.one b2
    subst e
    exact absurd a3 b3
  | x :: l, _, _, _, .on a1 a2 a3 a4, .on b1 b2 b3 b4 => by
    have e := a1.one b1
    subst e
    have e := a2.one b2
    subst e
    exact FedT.one a4 b4
theorem itT_bnd {m : Mc} {n : Nat} {T : Tbl} {A : Int} {B : Nat} (hf : faultM m = 0) (hb : BndT A B T) : ∀ k : Nat, BndT (A + 1000000000 * k) (B + k) (itT m n T k)
  | 0 => fun p y hp => by have := hb p y hp; simp; omega
  | k + 1 => fun p y hp => by
    have ih := itT_bnd hf hb (n := n) k
    have hup : (1000000000 : Int) * ((k + 1 : Nat) : Int) = 1000000000 * (k : Int) + 1000000000 := by rw [Int.natCast_add, Int.mul_add]; rfl
    rcases rndF_or _ hp with h | h | ⟨q, x, a, h1, h2, h3, rfl, rfl⟩
    · cases h
    · have := ih p y h
      omega
    · have g1 := ih q x h1
      have g2 := arcs_rng hf h2
      have g3 := goA_len x a
      have g4 : (goA x a).1 = x.1 + a.2.2.1 := rfl
      omega
def NzT (T : Tbl) : Prop := ∀ q k, T q = some k → ∀ x ∈ k.2, x ≠ 0
theorem goA_nz {k : Ky} {a : Ar} (h : ∀ x ∈ k.2, x ≠ 0) : ∀ x ∈ (goA k a).2, x ≠ 0 := by
 intro x hx
 unfold goA at hx
 simp only at hx
 by_cases e : a.2.1 = 0
 ·rw [if_pos e] at hx; exact h x hx
 ·rw [if_neg e, List.mem_append, List.mem_singleton] at hx
  rcases hx with hx | rfl
  ·exact h x hx
  ·exact e
theorem Rch.nz {m : Mc} {T : Tbl} (hT : NzT T) {p : Int} {y : Ky} (h : Rch m T p y) : ∀ x ∈ y.2, x ≠ 0 := by
 induction h with
 | base h => exact hT _ _ h
 | step h ha h0 ih => exact goA_nz ih
theorem Clo.nz {m : Mc} {T K : Tbl} (h : Clo m T K) (hT : NzT T) : NzT K := fun q k hk => (h.1 q k hk).nz hT
def NzL (l : List Mk) : Prop := ∀ j, j < l.length → ∀ x ∈ (el l j).2.2, x ≠ 0
theorem ordL_mem {n : Nat} {T : Tbl} {k : Mk} (h : k ∈ ordL n T) : T k.1 = some k.2 := by
 unfold ordL at h
 rw [List.mem_filterMap] at h
 obtain ⟨q, _, h2⟩ := h
 rcases hT : T (q : Int) with _ | y
 ·rw [hT] at h2; cases h2
 ·rw [hT] at h2
  simp only [Option.map_some, Option.some.injEq] at h2
  rw [← h2]; exact hT
theorem NzT.list {n : Nat} {T : Tbl} (h : NzT T) : NzL (ordL n T) := fun j hj x hx => h _ _ (ordL_mem (el_mem hj)) x hx
end Go.Proofs.Ytkeeiihaijhdoaa.Sm
