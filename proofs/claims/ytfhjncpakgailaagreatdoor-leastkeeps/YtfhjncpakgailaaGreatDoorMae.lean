/- append(out, State{..}): no block but the row's own is changed. -/
import Derived.Test.YtfhjncpakgailaaGreatDoorMab
import Derived.Test.YtfhjncpakgailaaGreatDoorMad
import Derived.Test.YtfhjncpakgailaaGreatDoorMaa
namespace Go.Proofs.YtfhjncpakgailaaGreatDoor.Wt
open Go.ChangeShapes Go.WideShapes Go.ChangeAt Go.RowKit
open Go.Proofs.YtfhjncpakgailaaGreatDoor.Pl
set_option linter.unusedVariables false
set_option linter.unusedSimpArgs false
theorem run_pushG {W w1 : World} (s : St) (l : List St) (va vo : Value) (base : Nat)
  (hW : W.heap = w1.heap.push (.cells #[.int .i64 s.1, va] 56)) (hos : W.os = w1.os) (htp : W.tape = w1.tape) (hou : W.output = w1.output)
  (hown : OwnSts w1 base vo l) (hva : w1.ownsRow base 58 4 va s.2.length (s.2.flatMap encA)) (hl : (l.length + 1) * 32 ≤ 140737488355328) (hbase : base ≤ w1.heap.size) :
  ∃ v3 w3, (Builtin.append_ #[27, 27] 27 #[vo, .slice (some ⟨w1.heap.size, 0, none⟩) 1 1]).run Tryz.prog W = .ok v3 w3 ∧ OwnSts w3 base v3 (l ++ [s]) ∧ Below base w1 w3 ∧ W.grownBy w3 vo.ownBlock := by
 obtain ⟨v3, w3, hr, h1, h2⟩ := run_push s l va vo base hW hos htp hou hown hva hl hbase
 refine ⟨v3, w3, hr, h1, h2, ?_⟩
 obtain ⟨i1, hi1, hy0, hy1, hy2⟩ := info_parts infoState
 obtain ⟨vs, q1, q2, q3⟩ := hown
 have e1 : ∀ k, k < w1.heap.size → W.heap[k]? = w1.heap[k]? := fun k hk => by rw [hW, Array.getElem?_push_lt hk, Array.getElem?_eq_getElem hk]
 have e0 : W.heap[w1.heap.size]? = some (.cells #[.int .i64 s.1, va] 56 (0, 0)) := by rw [hW]; simp
 have es : W.heap.size = w1.heap.size + 1 := by rw [hW]; simp
 have hg : w1.grownBy W none := ⟨hos, htp, hou, by omega, fun k hk _ => e1 k hk⟩
 have hvo := q1.kept hg (by rcases vo.ownBlock with _ | _ <;> simp)
 obtain ⟨v4, w4, hr4, _, hg4, _⟩ := run_append_own (P := Tryz.prog) W base 27 27 56 i1 _ 2 32 Tryz.underlying27 hi1 hy0 hy1 hy2 rfl (by omega) vo vs.length (vs.flatMap encS) hvo ⟨w1.heap.size, 0, none⟩ 1 1 [.int .i64 s.1, va] rfl (World.news_of_block (cs := #[.int .i64 s.1, va]) e0) (by
  intro u hu
  simp at hu
  rcases hu with rfl | rfl
  ·rfl
  ·exact own_one hva) (by rw [q2]; unfold maxLen; omega) (by rw [q2]; exact hl) (by omega)
 rw [hr] at hr4
 simp only [Result.ok.injEq] at hr4
 rw [hr4.2]
 exact hg4
def OwnArcs (w : World) (base : Nat) (v : Value) (ar : List Ar) : Prop := w.ownsRow base 58 4 v ar.length (ar.flatMap encA)
theorem OwnArcs.nil (w : World) (base : Nat) : OwnArcs w base (.slice none 0 0) [] := World.ownsRow_nil _ _ _ _
theorem OwnArcs.arcs {w : World} {base : Nat} {v : Value} {ar : List Ar} (h : OwnArcs w base v ar) : Arcs w v ar := Row.ofOwn encA_len h rfl
theorem OwnArcs.later {w w' : World} {base : Nat} {v : Value} {ar : List Ar} (h : OwnArcs w base v ar) (hb : Below w.heap.size w w') : OwnArcs w' base v ar := ownBelow h hb
theorem OwnArcs.sl {w : World} {base : Nat} {v : Value} {ar : List Ar} (h : OwnArcs w base v ar) : ∃ a c, v = .slice a ar.length c := own_sl h
theorem hidP {p : Prop} (h : p) : Hid p := h
theorem arcs_at {w : World} {a : Option Addr} {n c : Nat} {ar : List Ar} (h : Arcs w (.slice a n c) ar) {j : Nat} (hj : j < ar.length) :
  ∃ b off, a = some ⟨b, off, none⟩ ∧ b < w.heap.size ∧ w.cell? ⟨b, off + j * 4, none⟩ = some (.int .i64 (el ar j).1) ∧ w.cell? ⟨b, off + j * 4 + 1, none⟩ = some (.int .i64 (el ar j).2.1) ∧ w.cell? ⟨b, off + j * 4 + 2, none⟩ = some (.int .i64 (el ar j).2.2.1) ∧ w.cell? ⟨b, off + j * 4 + 3, none⟩ = some (.int .i64 (el ar j).2.2.2) := by
 obtain ⟨b, off, cap', hv, hb, hc⟩ := Row.plain h (fun x => by simp [encA]) (by omega)
 injection hv with h1 _ _
 exact ⟨b, off, h1, hb, hc j hj 0 _ rfl, hc j hj 1 _ rfl, hc j hj 2 _ rfl, hc j hj 3 _ rfl⟩
theorem mach_zeroR (w : World) : Mach w (.agg #[.int .i64 0, .slice none 0 0]) (0, []) := ⟨_, rfl, (OwnSts.nil w 0).sts⟩
theorem OwnSts.setM {w : World} {base : Nat} {v : Value} {l : List St} (h : OwnSts w base v l) {b : Nat} {cs : Array Value} (hb : Blk w b cs 29) (o : Nat) (u : Value) : OwnSts (w.setCell ⟨b, o, none⟩ u) base v l := by
 obtain ⟨vs, h1, h2, h3⟩ := h
 exact ⟨vs, h1.kept (gSet w b o u) (.inr (Ne.symm (own_ne h1 hb (by decide)))), h2, fun j hj => ⟨(h3 j hj).1, (h3 j hj).2.kept (gSet w b o u) (.inr (Ne.symm (own_ne (h3 j hj).2 hb (by decide))))⟩⟩
theorem OwnSts.laterB {w w' : World} {base : Nat} {v : Value} {l : List St} (h : OwnSts w base v l) (hb : Below w.heap.size w w') : OwnSts w' base v l := h.kept (grownBelow hb)
theorem OwnArcs.mono {w : World} {base base' : Nat} {v : Value} {ar : List Ar} (h : OwnArcs w base v ar) (hb : base' ≤ base) : OwnArcs w base' v ar := ownMono h hb
theorem boxedThree {w w1 : World} {c0 c1 c2 : Array Value} {t0 t1 t2 : TypeId} {n : Nat} (hb : Below n (((w.alloc (.cells c0 t0)).alloc (.cells c1 t1)).alloc (.cells c2 t2)) w1) (hn : n = w.heap.size + 3) : w.heap.size + 3 ≤ w1.heap.size ∧ Blk w1 w.heap.size c0 t0 ∧ Blk w1 (w.heap.size + 1) c1 t1 ∧ Blk w1 (w.heap.size + 2) c2 t2 ∧ Below w.heap.size w w1 := by
 subst hn
 have h := hb.size
 simp only [World.size_alloc] at h
 have k1 := Blk.made (w.alloc (.cells c0 t0)) c1 t1
 have k2 := Blk.made ((w.alloc (.cells c0 t0)).alloc (.cells c1 t1)) c2 t2
 simp only [World.size_alloc] at k1 k2
 exact ⟨h, (((Blk.made w c0 t0).alloc _).alloc _).below hb (by omega), (k1.alloc _).below hb (by omega), k2.below hb (by omega), ((((Below.refl _ _).alloc (Nat.le_refl _) _).alloc (by simp) _).alloc (by simp; omega) _).trans (hb.mono (by omega))⟩
theorem right_states {m : Mc} (hr : faultM m = 0) : ∀ j, j < m.2.length → finB (el m.2 j).1 = true ∧ (el m.2 j).2.length ≤ 400 ∧ ∀ p ∈ (el m.2 j).2, 0 ≤ p.2.2.2 ∧ p.2.2.2 ≤ 1000 := fun j hj => by
 have h400 := (right_size (z := m.1) (l := m.2) hr).2
 have h60 := (right_size (z := m.1) (l := m.2) hr).1
 have h1 := arcN_take hj
 have h2 := arcN_takeR m.2 (j + 1)
 have h3 := (right_parts hr).2 (el m.2 j) (el_mem hj)
 refine ⟨stB_fin h3, by omega, fun p hp => ?_⟩
 simp only [stB, Bool.and_eq_true, List.all_eq_true] at h3
 have h4 := h3.2 p hp
 simp only [arcB, inB, Bool.and_eq_true, decide_eq_true_eq] at h4
 omega
theorem word_own (v : Value) (l : List Int) (k : Nat) (w : World) (h : Nums w v l) (hwf : ∀ n ∈ l, (Lit.int .i64 n).wf = true) (hk : k ≤ 12) :
  Calls Tryz.prog 12 #[v, .int .i64 (k : Int)] w fun e w' => ∃ v', e = .returned v' ∧ (Nums w' v' (wdL l k) ∧ ∃ n, w'.ownsRow w.heap.size 3 1 v' n ((wdL l k).flatMap encI1)) ∧ Below w.heap.size w w' := by
 obtain ⟨i0, hi0, hz0, hz1, hz2⟩ := info_parts infoIntU
 obtain ⟨a, cap, rfl, hc⟩ := h.get
 have HC : Hid (∀ j, j < l.length → ∃ b off, a = some ⟨b, off, none⟩ ∧ b < w.heap.size ∧ w.cell? ⟨b, off + j, none⟩ = some (.int .i64 (el l j))) := hc
 have HWF := hidP hwf
 clear h hc hwf
 generalize hL : l.length = L at *
 have HL := hidP hL
 clear hL
 go_enter Tryz.func12, Tryz.ntmps12
 go_wp2
 go_loopw [5, 6] (fun s5 i wr => ∃ (j : Nat) (vr : Value), j ≤ L ∧ j ≤ k ∧ vr = s5 ∧ i = .int .i64 j ∧ Hid (wr.ownsRow w.heap.size 3 1 vr j ((wdL l j).flatMap encI1)) ∧ Hid (Below w.heap.size w wr)) (fun _ i _ => L - (intOf i).toNat)
 case atStart => exact ⟨0, _, Nat.zero_le _, Nat.zero_le _, rfl, rfl, World.ownsRow_nil _ _ _ _, Below.refl _ _⟩
 case round =>
  obtain ⟨j, vr, hj, hjk, rfl, rfl, hrw, hb⟩ := hrel
  by_cases hjL : j < L
  ·have hj1 : (j : Int) < (L : Int) := by omega
   have hj0 : (0 : Int) ≤ (j : Int) := by omega
   by_cases hjk2 : j < k
   ·have hj2 : (j : Int) < (k : Int) := by omega
    obtain ⟨b3, off3, rfl, hb3l, e0⟩ := HC.out j hjL
    have e0 := (hb.out.cell (p := ⟨b3, off3 + j, none⟩) hb3l).trans e0
    have HST : Hid (wdL l (j + 1) = wdL l j ++ [1 + pkR (el l j) 2]) := by
     show _ = _
     unfold wdL
     rw [take_el (by rw [HL.out]; exact hjL), List.map_append]
     rfl
    have hwf := HWF.out _ (el_mem (l := l) (j := j) (by rw [HL.out]; exact hjL))
    have hp := pkR_bd (el l j) 2 (by omega)
    obtain ⟨r, hr⟩ : ∃ r, pkR (el l j) 2 = r := ⟨_, rfl⟩
    have HPK : Hid (∀ W, Calls Tryz.prog 37 #[.int .i64 (el l j), .int .i64 2] W fun e w' => e = .returned (.int .i64 r) ∧ W = w') := fun W => (picked_R (el l j) 2 W hwf (by omega) (by omega) r hr).mono fun e w' ⟨h1, h2⟩ => ⟨h1, by first | exact h2 | exact h2.symm⟩
    rw [hr] at HST hp
    clear hr hwf
    generalize el l j = x at *
    have hw3 : IntKind.i64.wrap (1 + r) = 1 + r := wrapI (by omega) (by omega)
    generalize wdL l j = tl at *
    have HD := hrw
    clear hrw
    have hbs := hb.out.size
    go_wp2_with (first
     | (go_at_call 37; (with_reducible refine (HPK.out _).mono ?_); rintro e w' ⟨rfl, rfl⟩)
     | (at_builtin; refine wpList_append_rows encI1_len (by decide) encI1_one rfl _ _ 25 rfl w.heap.size 3 i0 _ 8 Tryz.underlying25 hi0 hz0 hz1 hz2 rfl _ j (tl.flatMap encI1) rfl (HD.out.alloc _) _ [1 + r] rfl (oneRow (enc := encI1) wr (1 + r) rfl 3) (by simp; unfold maxLen; omega) (by simp; omega) (by simp; omega) ?_; intro v4 w4 ho4 hg4; have HO4 := hidP ho4; have HB4 : Hid (Below w.heap.size w w4) := (hb.out.alloc hbs _).grown hg4 (by simp; omega) (fun k hk => (HD.out.lt k hk).1); clear ho4 hg4))
    go_roundw
    case rel => exact ⟨j + 1, _, by omega, by omega, rfl, by go_num, by rw [HST.out, List.flatMap_append]; exact HO4.out, HB4⟩
    case measure => simp [intOf]; omega
   ·have hj2 : ¬ (j : Int) < (k : Int) := by omega
    obtain rfl : j = k := by omega
    go_wp2
    go_ret
    exact ⟨_, rfl, ⟨Row.ofOwn encI1_len hrw.out (by rw [wdL, List.length_map, List.length_take, HL.out]; omega), _, hrw.out⟩, hb.out⟩
  ·have hj1 : ¬ (j : Int) < (L : Int) := by omega
   have HE : Hid (wdL l j = wdL l k) := by
    show _ = _
    unfold wdL
    rw [List.take_of_length_le (by rw [HL.out]; omega), List.take_of_length_le (by rw [HL.out]; omega)]
   go_wp2
   go_ret
   exact ⟨_, rfl, by rw [← HE.out]; exact ⟨Row.ofOwn encI1_len hrw.out (by rw [wdL, List.length_map, List.length_take, HL.out]; omega), _, hrw.out⟩, hb.out⟩
theorem word_any (v : Value) (l : List Int) (k : Nat) (w : World) (h : Nums w v l) (hwf : ∀ n ∈ l, (Lit.int .i64 n).wf = true) (hk : k ≤ 12) :
  Calls Tryz.prog 12 #[v, .int .i64 (k : Int)] w fun e w' => ∃ v', e = .returned v' ∧ Nums w' v' (wdL l k) ∧ Below w.heap.size w w' := (word_own v l k w h hwf hk).mono fun e w' ⟨v', h1, h2, h3⟩ => ⟨v', h1, h2.1, h3⟩
theorem both_any (a b : Int) (w : World) (ha : 0 ≤ a ∧ a ≤ 1000000001) (hb : 0 ≤ b ∧ b ≤ 1000000001) :
  Calls Tryz.prog 14 #[.int .i64 a, .int .i64 b] w fun e w' => e = .returned (.int .i64 (if a = 1000000001 ∨ b = 1000000001 then 1000000001 else a + b)) ∧ w = w' := by
 by_cases h1 : a = 1000000001
 ·rw [if_pos (.inl h1)]
  have h1' : (a == 1000000001) = true := by simpa using h1
  go_enter Tryz.func14, Tryz.ntmps14
  go_wp2
  go_ret
  exact ⟨rfl, rfl⟩
 ·have h1' : (a == 1000000001) = false := by simpa using h1
  by_cases h2 : b = 1000000001
  ·rw [if_pos (.inr h2)]
   have h2' : (b == 1000000001) = true := by simpa using h2
   go_enter Tryz.func14, Tryz.ntmps14
   go_wp2
   go_ret
   exact ⟨rfl, rfl⟩
  ·rw [if_neg (fun h => h.elim h1 h2)]
   have h2' : (b == 1000000001) = false := by simpa using h2
   have hw : IntKind.i64.wrap (a + b) = a + b := wrapI (by omega) (by omega)
   go_enter Tryz.func14, Tryz.ntmps14
   go_wp2
   go_ret
   exact ⟨rfl, rfl⟩
end Go.Proofs.YtfhjncpakgailaaGreatDoor.Wt
namespace Go.Proofs.YtfhjncpakgailaaGreatDoor.Pl
def swpW (l : List Ar) (i j : Nat) : List Ar := (l.set i (el l j)).set j (el l i)
theorem swpW_length (l : List Ar) (i j : Nat) : (swpW l i j).length = l.length := by simp [swpW]
theorem el_setW {l : List Ar} {q j : Nat} (hq : q < l.length) (x : Ar) : el (l.set q x) j = if j = q then x else el l j := by
 by_cases h : j = q
 ·subst h; rw [if_pos rfl, el_get (by simpa using hq)]; simp
 ·rw [if_neg h]; simp [el, List.getElem?_set_ne (Ne.symm h)]
theorem el_swpW {l : List Ar} {i j : Nat} (hi : i < l.length) (hj : j < l.length) (k : Nat) : el (swpW l i j) k = if k = j then el l i else if k = i then el l j else el l k := by
 unfold swpW
 rw [el_setW (by simpa using hj), el_setW hi]
theorem swpW_perm {l : List Ar} {i j : Nat} (hi : i < l.length) (hj : j < l.length) : (swpW l i j).Perm l := by
 have h := Array.swap_perm (xs := l.toArray) (i := i) (j := j) (by simpa using hi) (by simpa using hj)
 rw [Array.perm_iff_toList_perm] at h
 have e : (l.toArray.swap i j (by simpa using hi) (by simpa using hj)).toList = swpW l i j := by
  unfold swpW
  rw [el_get hi, el_get hj]
  simp [Array.swap]
 rw [e] at h
 exact h
theorem swpW_drop {l : List Ar} {i j n : Nat} (hi : i < n) (hj : j < n) : (swpW l i j).drop n = l.drop n := by
 unfold swpW
 rw [List.drop_set_of_lt (by omega), List.drop_set_of_lt (by omega)]
def HeapW (l : List Ar) (n : Nat) : Prop := ∀ k, 0 < k → k < n → (el l ((k - 1) / 2)).2.2.2 ≤ (el l k).2.2.2
theorem HeapW.nil : HeapW [] 0 := fun _ _ h => absurd h (Nat.not_lt_zero _)
theorem HeapW.root {l : List Ar} {n : Nat} (h : HeapW l n) : ∀ k, k < n → (el l 0).2.2.2 ≤ (el l k).2.2.2 := by
  intro k
  induction k using Nat.strongRecOn with
  | ind k ih =>
    intro hk
    by_cases e : k = 0
    · subst e; exact Int.le_refl _
    · have h1 := h k (by omega) hk
      have h2 := ih ((k - 1) / 2) (by omega) (by omega)
      omega
def UpW (l : List Ar) (j : Nat) : Prop := ∀ k, 0 < k → k < l.length → (k ≠ j → (el l ((k - 1) / 2)).2.2.2 ≤ (el l k).2.2.2) ∧ (0 < j → (k - 1) / 2 = j → (el l ((j - 1) / 2)).2.2.2 ≤ (el l k).2.2.2)
theorem UpW.start {l : List Ar} (h : HeapW l l.length) (x : Ar) : UpW (l ++ [x]) l.length := by
 intro k h0 hk
 have hk' : k < l.length + 1 := by simpa using hk
 constructor
 ·intro hne
  rw [el_left (by omega), el_left (by omega)]
  exact h k h0 (by omega)
 ·intro h1 h2; omega
theorem UpW.swap {l : List Ar} {j : Nat} (h : UpW l j) (h0 : 0 < j) (hj : j < l.length) (hlt : (el l j).2.2.2 < (el l ((j - 1) / 2)).2.2.2) : UpW (swpW l ((j - 1) / 2) j) ((j - 1) / 2) := by
 generalize hi : (j - 1) / 2 = i at *
 have hij : i < j := by omega
 intro k hk0 hk
 rw [swpW_length] at hk
 have hjj := h j h0 hj
 have hkk := h k hk0 hk
 have e := fun p => el_swpW (l := l) (i := i) (j := j) (by omega) hj p
 constructor
 ·intro hki
  rw [e k, if_neg hki, e ((k - 1) / 2)]
  by_cases c1 : k = j
  ·subst c1
   rw [if_pos rfl, hi, if_neg (by omega), if_pos rfl]
   omega
  ·rw [if_neg c1]
   have h1 := hkk.1 c1
   by_cases c2 : (k - 1) / 2 = j
   ·rw [if_pos c2]
    have := hkk.2 h0 c2
    rw [hi] at this
    exact this
   ·rw [if_neg c2]
    by_cases c3 : (k - 1) / 2 = i
    ·rw [if_pos c3]
     rw [c3] at h1
     omega
    ·rw [if_neg c3]; exact h1
 ·intro hi0 hki
  have hpi : (i - 1) / 2 < i := by omega
  rw [e ((i - 1) / 2), if_neg (by omega), if_neg (by omega), e k]
  have h1 := (h i hi0 (by omega)).1 (by omega)
  by_cases c1 : k = j
  ·rw [if_pos c1]; exact h1
  ·rw [if_neg c1, if_neg (by omega)]
   have h2 := hkk.1 c1
   rw [hki] at h2
   omega
theorem UpW.top {l : List Ar} (h : UpW l 0) : HeapW l l.length := fun k h0 hk => (h k h0 hk).1 (by omega)
theorem UpW.stop {l : List Ar} {j : Nat} (h : UpW l j) (hle : ¬ (el l j).2.2.2 < (el l ((j - 1) / 2)).2.2.2) : HeapW l l.length := by
 intro k h0 hk
 by_cases c : k = j
 ·subst c; omega
 ·exact (h k h0 hk).1 c
def DownW (l : List Ar) (i n : Nat) : Prop := ∀ k, 0 < k → k < n → ((k - 1) / 2 ≠ i → (el l ((k - 1) / 2)).2.2.2 ≤ (el l k).2.2.2) ∧ (0 < i → (k - 1) / 2 = i → (el l ((i - 1) / 2)).2.2.2 ≤ (el l k).2.2.2)
theorem DownW.start {l : List Ar} {n : Nat} (h : HeapW l l.length) (hn : l.length = n + 1) : DownW (swpW l 0 n) 0 n := by
 intro k h0 hk
 have e := fun p => el_swpW (l := l) (i := 0) (j := n) (by omega) (by omega) p
 constructor
 ·intro hne
  rw [e, e k, if_neg (by omega), if_neg (by omega), if_neg (by omega), if_neg (by omega)]
  exact h k h0 (by omega)
 ·intro h1; omega
def LowW (l : List Ar) (i n c : Nat) : Prop := c < n ∧ 0 < c ∧ (c - 1) / 2 = i ∧ ∀ k, 0 < k → k < n → (k - 1) / 2 = i → (el l c).2.2.2 ≤ (el l k).2.2.2
theorem LowW.left {l : List Ar} {i n : Nat} (h1 : 2 * i + 1 < n) (h2 : 2 * i + 1 + 1 < n → ¬ (el l (2 * i + 1 + 1)).2.2.2 < (el l (2 * i + 1)).2.2.2) : LowW l i n (2 * i + 1) := by
 refine ⟨h1, by omega, by omega, fun k k0 hk hp => ?_⟩
 have : k = 2 * i + 1 ∨ k = 2 * i + 1 + 1 := by omega
 rcases this with rfl | rfl
 ·exact Int.le_refl _
 ·have := h2 hk; omega
theorem LowW.right {l : List Ar} {i n : Nat} (h1 : 2 * i + 1 + 1 < n) (h2 : (el l (2 * i + 1 + 1)).2.2.2 < (el l (2 * i + 1)).2.2.2) : LowW l i n (2 * i + 1 + 1) := by
 refine ⟨h1, by omega, by omega, fun k k0 hk hp => ?_⟩
 have : k = 2 * i + 1 ∨ k = 2 * i + 1 + 1 := by omega
 rcases this with rfl | rfl
 ·omega
 ·exact Int.le_refl _
theorem DownW.swap {l : List Ar} {i n c : Nat} (h : DownW l i n) (hn : n ≤ l.length) (hc : LowW l i n c) (hlt : (el l c).2.2.2 < (el l i).2.2.2) : DownW (swpW l i c) c n := by
 obtain ⟨hcn, hc0, hci, hmin⟩ := hc
 have hic : i < c := by omega
 intro k hk0 hk
 have e := fun p => el_swpW (l := l) (i := i) (j := c) (by omega) (by omega) p
 constructor
 ·intro hkc
  rw [e ((k - 1) / 2), if_neg hkc, e k]
  by_cases c3 : (k - 1) / 2 = i
  ·rw [if_pos c3]
   by_cases c1 : k = c
   ·rw [if_pos c1]; omega
   ·rw [if_neg c1, if_neg (by omega)]
    exact hmin k hk0 hk c3
  ·rw [if_neg c3]
   have h1 := (h k hk0 hk).1 c3
   by_cases c1 : k = c
   ·subst c1; exact absurd hci c3
   ·rw [if_neg c1]
    by_cases c2 : k = i
    ·subst c2
     rw [if_pos rfl]
     exact (h c hc0 hcn).2 hk0 hci
    ·rw [if_neg c2]; exact h1
 ·intro _ hkc
  rw [hci, e i, if_neg (by omega), if_pos rfl, e k, if_neg (by omega), if_neg (by omega)]
  have h1 := (h k hk0 hk).1 (by omega)
  rw [hkc] at h1
  exact h1
theorem DownW.leaf {l : List Ar} {i n : Nat} (h : DownW l i n) (hl : n ≤ 2 * i + 1) : HeapW l n := fun k h0 hk => (h k h0 hk).1 (by omega)
theorem DownW.stop {l : List Ar} {i n c : Nat} (h : DownW l i n) (hc : LowW l i n c) (hle : ¬ (el l c).2.2.2 < (el l i).2.2.2) : HeapW l n := by
 intro k h0 hk
 by_cases e : (k - 1) / 2 = i
 ·have := hc.2.2.2 k h0 hk e
  rw [e]; omega
 ·exact (h k h0 hk).1 e
theorem popW_facts {l m : List Ar} {n : Nat} (h : HeapW l l.length) (hn : l.length = n + 1) (hp : m.Perm (swpW l 0 n)) (hd : m.drop n = (swpW l 0 n).drop n) (hm : HeapW m n) :
  el m n = el l 0 ∧ HeapW (m.take n) n ∧ (el l 0 :: m.take n).Perm l ∧ ∀ y ∈ m.take n, (el l 0).2.2.2 ≤ y.2.2.2 := by
 have hml : m.length = n + 1 := by rw [hp.length_eq, swpW_length, hn]
 have h1 : el m n = el l 0 := by
  have e1 : el (m.drop n) 0 = el m n := by simp [el]
  have e2 : el ((swpW l 0 n).drop n) 0 = el (swpW l 0 n) n := by simp [el]
  rw [← e1, hd, e2, el_swpW (by omega) (by omega), if_pos rfl]
 have h2 : m = m.take n ++ [el l 0] := by
  have := take_el (l := m) (k := n) (by omega)
  rw [List.take_of_length_le (by omega), h1] at this
  exact this
 have h3 : (el l 0 :: m.take n).Perm l := by
  have h4 : m.Perm l := hp.trans (swpW_perm (by omega) (by omega))
  rw [h2] at h4
  exact (List.perm_append_singleton _ _).symm.trans h4
 refine ⟨h1, ?_, h3, fun y hy => ?_⟩
 ·intro k h0 hk
  rw [el_take (by omega), el_take hk]
  exact hm k h0 hk
 ·have : y ∈ l := h3.mem_iff.1 (List.mem_cons_of_mem _ hy)
  obtain ⟨k, hk, rfl⟩ := mem_el this
  exact h.root k hk
end Go.Proofs.YtfhjncpakgailaaGreatDoor.Pl
