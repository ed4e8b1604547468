/- The reference: a mark along an arc. -/
import Derived.Test.YtkeeiihaijhdoaaFai
import Derived.Test.YtkeeiihaijhdoaaFac
import Derived.Test.YtkeeiihaijhdoaaFab
import Derived.Laws.MakeOwn
import Derived.Test.YtkeeiihaijhdoaaFah
namespace Go.Proofs.Ytkeeiihaijhdoaa.Sm
open Go.ChangeShapes Go.WideShapes Go.ChangeAt Go.RowKit
open Go.Proofs.Ytkeeiihaijhdoaa.Pl Go.Proofs.Ytkeeiihaijhdoaa.Wt
set_option linter.unusedVariables false
set_option linter.unusedSimpArgs false
set_option maxRecDepth 100000 in
set_option maxHeartbeats 1600000 in
theorem moved_any (v : Value) (k : Mk) (a : Ar) (w : World) (h : MkIs w v k) (hs : k.2.2.length ≤ 1000000) (h0 : 0 ≤ k.2.1) (h1 : k.2.1 ≤ 1000000000000000) (h2 : 0 ≤ a.2.2.1) (h3 : a.2.2.1 ≤ 1000000000000) (h4 : 0 ≤ a.2.1) :
  Calls Try.prog 41 #[v, .agg #[.int .i64 a.1, .int .i64 a.2.1, .int .i64 a.2.2.1, .int .i64 a.2.2.2]] w fun e w' => ∃ vo, e = .returned (.agg #[.int .i64 a.2.2.2, .int .i64 (goA k.2 a).1, vo]) ∧ OwnN w' w.heap.size vo (goA k.2 a).2 ∧ Below w.heap.size w w' := by
 obtain ⟨q, x, l⟩ := k
 obtain ⟨a0, a1, a2, a3⟩ := a
 obtain ⟨vo, rfl, hn⟩ := h
 simp only at hn hs h0 h1 h2 h3 h4 ⊢
 obtain ⟨al, cl, rfl, hc⟩ := hn.get
 have HC : Hid (∀ j, j < l.length → ∃ b off, al = some ⟨b, off, none⟩ ∧ b < w.heap.size ∧ w.cell? ⟨b, off + j, none⟩ = some (.int .i64 (el l j))) := hc
 have HTK : Hid (∀ j, j < l.length → l.take (j + 1) = l.take j ++ [el l j]) := fun j hj => take_el hj
 have HTA : Hid (l.take l.length = l) := List.take_length
 have HTL : Hid (∀ j, j ≤ l.length → (l.take j).length = j) := fun j hj => by rw [List.length_take]; omega
 have HG : Hid (goA (x, l) (a0, a1, a2, a3) = (x + a2, if a1 = 0 then l else l ++ [a1])) := by show _ = _; simp [goA]
 rw [HG.out]
 clear hn hc HG
 simp only
 obtain ⟨R, hR⟩ : ∃ R, R = if a1 = 0 then l else l ++ [a1] := ⟨_, rfl⟩
 rw [← hR]
 have HRR := hidP hR
 clear hR
 generalize hL : l.length = n at *
 have HLN := hidP hL
 clear hL
 go_enter Try.func41, Try.ntmps41
 go_wp2
 go_loopw [5, 6] (fun s5 i wr => ∃ k : Nat, k ≤ n ∧ i = .int .i64 k ∧ Hid (OwnN wr (w.heap.size + 3) s5 (l.take k)) ∧ Hid (Blk wr w.heap.size #[.int .i64 q, .int .i64 x, .slice al n cl] 67) ∧ Hid (Blk wr (w.heap.size + 1) #[.int .i64 a0, .int .i64 a1, .int .i64 a2, .int .i64 a3] 75) ∧ Hid (Blk wr (w.heap.size + 2) #[.int .i64 0, .int .i64 0, .slice none 0 0] 67) ∧ w.heap.size + 3 ≤ wr.heap.size ∧ Hid (Below w.heap.size w wr)) (fun _ i _ => n - (intOf i).toNat)
 case atStart => exact ⟨0, Nat.zero_le _, rfl, OwnN.nil _ _, ((Blk.made w _ _).alloc _).alloc _, (by have h := (Blk.made (w.alloc (.cells #[.int .i64 q, .int .i64 x, .slice al n cl] 67)) #[.int .i64 a0, .int .i64 a1, .int .i64 a2, .int .i64 a3] 75).alloc (.cells #[.int .i64 0, .int .i64 0, .slice none 0 0] 67); simp only [World.size_alloc] at h; exact h), (by have h := Blk.made ((w.alloc (.cells #[.int .i64 q, .int .i64 x, .slice al n cl] 67)).alloc (.cells #[.int .i64 a0, .int .i64 a1, .int .i64 a2, .int .i64 a3] 75)) #[.int .i64 0, .int .i64 0, .slice none 0 0] 67; simp only [World.size_alloc] at h; exact h), by simp, by show Below _ _ _; go_grown⟩
 case round =>
  obtain ⟨k, hk, rfl, hown, b0, b1, b2, hsz, hb⟩ := hrel
  rename_i s5
  obtain ⟨ar, cr, hvo⟩ := hown.out.sl
  rw [HTL.out k hk] at hvo
  subst hvo
  have c1 := b0.out.cell 1 (v := .int .i64 x) rfl
  have c2 := b0.out.cell 2 (v := .slice al n cl) rfl
  have d1 := b1.out.cell 1 (v := .int .i64 a1) rfl
  have d2 := b1.out.cell 2 (v := .int .i64 a2) rfl
  have d3 := b1.out.cell 3 (v := .int .i64 a3) rfl
  have e0 := b2.out.cell 0 (v := .int .i64 0) rfl
  have e1 := b2.out.cell 1 (v := .int .i64 0) rfl
  have e2 := b2.out.cell 2 (v := .slice none 0 0) rfl
  have g0 := b2.out.fz 0
  have g1 := b2.out.fz 1
  have g2 := b2.out.fz 2
  by_cases hlt : k < n
  ·have hk0 : (0 : Int) ≤ (k : Int) := by omega
   have hk1 : (k : Int) < (n : Int) := by omega
   obtain ⟨b, off, rfl, hbl, q0⟩ := HC.out k hlt
   have q0 := (hb.out.cell (p := ⟨b, off + k, none⟩) hbl).trans q0
   have HT := hidP (HTK.out k hlt)
   generalize el l k = y at *
   obtain ⟨a9, c9, w9, r9, o9, hb9, hg9⟩ := hown.out.push y (by rw [HTL.out k hk]; omega) (by omega)
   rw [HTL.out k hk] at r9 o9
   have HR9 := hidP r9
   have HO9 : Hid (OwnN w9 (w.heap.size + 3) (.slice a9 (k + 1) c9) (l.take (k + 1))) := by show OwnN _ _ _ _; rw [HT.out]; exact o9
   have HB9 : Hid (Below w.heap.size w w9) := hb.out.trans (hb9.mono (by omega))
   have B0 := hidP (b0.out.below hb9 (by omega))
   have B1 := hidP (b1.out.below hb9 (by omega))
   have B2 := hidP (b2.out.below hb9 (by omega))
   have zz9 := hb9.size
   clear r9 o9 hb9 hg9
   go_wp2_with (first
    | (at_builtin; refine wpListAppendRun rfl _ _ 35 rfl rfl rfl HR9.out ?_; clear HR9))
   go_roundw
   case rel => exact ⟨k + 1, by omega, by go_num, HO9, B0, B1, B2, by omega, HB9⟩
   case measure => simp [intOf]; omega
  ·have hnl : ¬ (k : Int) < (n : Int) := by omega
   have hkn : k = n := by omega
   have HO : Hid (OwnN wr (w.heap.size + 3) (.slice ar k cr) l) := by
    show OwnN _ _ _ _
    have h := hown.out
    rw [hkn, HTA.out] at h
    rw [hkn]; exact h
   by_cases hz : a1 = 0
   ·have hRl : R = l := by rw [HRR.out, if_pos hz]
    have hz1 : ¬ (0 : Int) < a1 := by omega
    clear hown
    go_wp2
    exact bodyPost_ret (v := .agg #[.int .i64 a3, .int .i64 (x + a2), .slice ar k cr]) (by simp [results, Try.results41, go_sem, *]) rfl ⟨_, rfl, OwnN.mono (((HO.out.set (by show w.heap.size + 2 < _; omega) _).set (by show w.heap.size + 2 < _; omega) _).set (by show w.heap.size + 2 < _; omega) _) (by omega), by have h9 := hb.out; go_grown⟩
   ·have hRl : R = l ++ [a1] := by rw [HRR.out, if_neg hz]
    have hz1 : (0 : Int) < a1 := by omega
    obtain ⟨a9, c9, w9, r9, o9, hb9, hg9⟩ := HO.out.push a1 (by rw [HLN.out]; omega) (by omega)
    rw [HLN.out] at r9 o9
    rw [← hRl] at o9
    have hkn' : n = k := hkn.symm
    have HR9 : Hid ((Builtin.append_ #[35, 35] 35 #[.slice ar k cr, .slice (some ⟨wr.heap.size, 0, none⟩) 1 1]).run Try.prog (wr.alloc (.cells #[.int .i64 a1] 3)) = .ok (.slice a9 (n + 1) c9) w9) := r9
    have HO9 := hidP o9
    have HB9 : Hid (Below w.heap.size w w9) := hb.out.trans (hb9.mono (by omega))
    have B2 := hidP (b2.out.below hb9 (by omega))
    have zz9 := hb9.size
    have x0 := B2.out.cell 0 (v := .int .i64 0) rfl
    have x1 := B2.out.cell 1 (v := .int .i64 0) rfl
    have x2 := B2.out.cell 2 (v := .slice none 0 0) rfl
    have y0 := B2.out.fz 0
    have y1 := B2.out.fz 1
    have y2 := B2.out.fz 2
    have B1 := b1.out.below hb9 (by omega)
    have B0 := b0.out.below hb9 (by omega)
    have u1 := B0.cell 1 (v := .int .i64 x) rfl
    have f2 := B1.cell 2 (v := .int .i64 a2) rfl
    have f3 := B1.cell 3 (v := .int .i64 a3) rfl
    clear r9 o9 hb9 hg9 hown HO hkn hkn' B0 B1 hRl
    go_wp2_with (first
     | (at_builtin; refine wpListAppendRun rfl _ _ 35 rfl rfl rfl HR9.out ?_; clear HR9))
    exact bodyPost_ret (v := .agg #[.int .i64 a3, .int .i64 (x + a2), .slice a9 (n + 1) c9]) (by simp [results, Try.results41, go_sem, *]) rfl ⟨_, rfl, OwnN.mono (((HO9.out.set (by show w.heap.size + 2 < _; omega) _).set (by show w.heap.size + 2 < _; omega) _).set (by show w.heap.size + 2 < _; omega) _) (by omega), by have h9 := HB9.out; go_grown⟩
end Go.Proofs.Ytkeeiihaijhdoaa.Sm
namespace Go.Proofs.Ytkeeiihaijhdoaa.Wt
open Go.ChangeShapes Go.WideShapes Go.ChangeAt Go.RowKit
open Go.Proofs.Ytkeeiihaijhdoaa.Pl
set_option linter.unusedVariables false
set_option linter.unusedSimpArgs false
section
variable {P : Program} {ops : Array Oper} {Q : Exit → Act → World → Prop} {md : Region.Mode} {S : World → Prop} {L : Nat}
theorem anyL_br {rs : List Nat} {n : Nat} {listed : Array Bool} {a : Act} {w : World} (hr : Region.ready md ops listed = rs) (hne : rs ≠ [])
  (h : ∀ i ∈ rs, ∃ o, ops[i]? = some o ∧ o.guard = none ∧ ∀ K : Act → World → Prop, (∀ b x, (i = L ∨ S x) → AnyL P md ops Q S L n (listed.setIfInBounds i true) b x → K b x) → Oper.wp P o a w K Q) : AnyL P md ops Q S L (n + 1) listed a w := by
 refine ⟨fun h0 => absurd (hr ▸ h0) hne, ?_⟩
 rw [hr]
 intro j hj
 obtain ⟨o, hi, hg, h⟩ := h j hj
 refine wpOp_step hi (fun K hK => ?_)
 have hw : Region.wanted o (yielded ops a.tmps) = true := by simp [Region.wanted, hg]
 rw [if_pos hw]
 exact h K (fun b x h1 h2 => hK b x ⟨h1, h2⟩)
end
end Go.Proofs.Ytkeeiihaijhdoaa.Wt
namespace Go.Proofs.Ytkeeiihaijhdoaa.Sm
open Go.ChangeShapes Go.WideShapes Go.ChangeAt Go.RowKit
open Go.Proofs.Ytkeeiihaijhdoaa.Pl Go.Proofs.Ytkeeiihaijhdoaa.Wt
set_option linter.unusedVariables false
set_option linter.unusedSimpArgs false
def NumE (B X : Nat) (w : World) (v : Value) (l : List Int) : Prop := ∀ w' : World, (∀ b, b < w.heap.size → b ≠ B → b ≠ X → w'.heap[b]? = w.heap[b]?) → Nums w' v l
theorem NumE.nums {B X : Nat} {w : World} {v : Value} {l : List Int} (h : NumE B X w v l) : Nums w v l := h w fun _ _ _ _ => rfl
theorem NumE.next {B X : Nat} {w w' : World} {v : Value} {l : List Int} (h : NumE B X w v l) (hk : ∀ b, b < w.heap.size → b ≠ B → b ≠ X → w'.heap[b]? = w.heap[b]?) (hs : w.heap.size ≤ w'.heap.size) : NumE B X w' v l :=
 fun w2 h2 => h w2 fun b hb hne hnx => (h2 b (by omega) hne hnx).trans (hk b hb hne hnx)
theorem NumE.below {B X : Nat} {w w' : World} {v : Value} {l : List Int} (h : NumE B X w v l) (hb : Below w.heap.size w w') : NumE B X w' v l := h.next (fun b h9 _ _ => hb.block b h9) hb.size
theorem NumE.set {B X : Nat} {w : World} {v : Value} {l : List Int} (h : NumE B X w v l) (o : Nat) (u : Value) : NumE B X (w.setCell ⟨B, o, none⟩ u) v l := h.next (fun b _ hne _ => Below.heap_setCell w _ _ b (by show b ≠ B; exact hne)) (by simp)
theorem NumE.left {B X : Nat} {w : World} {v : Value} {l : List Int} (h : NumE B X w v l) : NumE X X w v l := fun w' hw => h w' fun b hb _ hx => hw b hb hx hx
theorem NumE.old {B X : Nat} {w0 w : World} {v : Value} {l : List Int} (h : Nums w0 v l) (hb : Below w0.heap.size w0 w) (hB : w0.heap.size ≤ B) (hX : w0.heap.size ≤ X) : NumE B X w v l := fun w' hw => by
 refine Row.keeps h fun a u hu => ?_
 have hlt := World.block_lt_of_cell? _ _ hu
 rw [World.cell?_of_block ((hw a.block (Nat.lt_of_lt_of_le hlt hb.size) (by omega) (by omega)).trans (hb.block a.block hlt))]
 exact hu
theorem NumE.oldX {B X : Nat} {w0 w : World} {v : Value} {l : List Int} (h : NumE X X w0 v l) (hb : Below w0.heap.size w0 w) (hB : w0.heap.size ≤ B) : NumE B X w v l := fun w' hw => by
 refine h w' fun b h1 h2 _ => ?_
 exact (hw b (Nat.lt_of_lt_of_le h1 hb.size) (by omega) h2).trans (hb.block b h1)
theorem NumE.own {B X base : Nat} {w : World} {v : Value} {l : List Int} (h : OwnN w base v l) (hB : B < base) (hX : X < base) : NumE B X w v l := fun w' hw => by
 rcases h.nums with hn | ⟨x, cap, rfl, hc⟩
 ·exact .inl hn
 ·refine .inr ⟨x, cap, rfl, fun j hj i u hu => ?_⟩
  have hx := h.lt x.block rfl
  have h1 := hc j hj i u hu
  have h2 : (x.add (j * 1 + i)).block = x.block := by unfold Addr.add; split <;> rfl
  exact (World.cell?_of_block (w := w) (w' := w') (a := x.add (j * 1 + i)) (by rw [h2]; exact hw x.block hx.2 (by omega) (by omega))).trans h1
def MarksX (X : Nat) (w : World) (v : Value) (ms : List Mk) : Prop := ∃ xs : List MkV, (∀ w' : World, (∀ b, b < w.heap.size → b ≠ X → w'.heap[b]? = w.heap[b]?) → Row 3 encM w' v xs) ∧ xs.length = ms.length ∧ ∀ j, j < ms.length → (el xs j).1 = (el ms j).1 ∧ (el xs j).2.1 = (el ms j).2.1 ∧ NumE X X w (el xs j).2.2 (el ms j).2.2
theorem MarksX.marks {X : Nat} {w : World} {v : Value} {ms : List Mk} (h : MarksX X w v ms) : Marks w v ms := by
 obtain ⟨xs, h1, h2, h3⟩ := h
 exact ⟨xs, h1 w fun _ _ _ => rfl, h2, fun j hj => ⟨(h3 j hj).1, (h3 j hj).2.1, (h3 j hj).2.2.nums⟩⟩
theorem MarksX.sl {X : Nat} {w : World} {v : Value} {ms : List Mk} (h : MarksX X w v ms) : ∃ a c, v = .slice a ms.length c := h.marks.sl
theorem MarksX.next {X : Nat} {w w' : World} {v : Value} {ms : List Mk} (h : MarksX X w v ms) (hk : ∀ b, b < w.heap.size → b ≠ X → w'.heap[b]? = w.heap[b]?) (hs : w.heap.size ≤ w'.heap.size) : MarksX X w' v ms := by
 obtain ⟨xs, h1, h2, h3⟩ := h
 exact ⟨xs, fun w2 g => h1 w2 fun b hb hx => (g b (by omega) hx).trans (hk b hb hx), h2, fun j hj => ⟨(h3 j hj).1, (h3 j hj).2.1, (h3 j hj).2.2.next (fun b hb hx _ => hk b hb hx) hs⟩⟩
theorem MarksX.below {X : Nat} {w w' : World} {v : Value} {ms : List Mk} (h : MarksX X w v ms) (hb : Below w.heap.size w w') : MarksX X w' v ms := h.next (fun b h9 _ => hb.block b h9) hb.size
theorem MarksX.old {X : Nat} {w0 w : World} {v : Value} {ms : List Mk} (h : Marks w0 v ms) (hb : Below w0.heap.size w0 w) (hX : w0.heap.size ≤ X) : MarksX X w v ms := by
 obtain ⟨xs, h1, h2, h3⟩ := h
 refine ⟨xs, fun w' hw => Row.keeps h1 fun a u hu => ?_, h2, fun j hj => ⟨(h3 j hj).1, (h3 j hj).2.1, NumE.old (h3 j hj).2.2 hb hX hX⟩⟩
 have hlt := World.block_lt_of_cell? _ _ hu
 rw [World.cell?_of_block ((hw a.block (Nat.lt_of_lt_of_le hlt hb.size) (by omega)).trans (hb.block a.block hlt))]
 exact hu
theorem MarksX.get {X : Nat} {w : World} {a : Option Addr} {n c : Nat} {ms : List Mk} (h : MarksX X w (.slice a n c) ms) {j : Nat} (hj : j < ms.length) : ∃ b off vo, a = some ⟨b, off, none⟩ ∧ b < w.heap.size ∧ w.cell? ⟨b, off + j * 3, none⟩ = some (.int .i64 (el ms j).1) ∧ w.cell? ⟨b, off + j * 3 + 1, none⟩ = some (.int .i64 (el ms j).2.1) ∧ w.cell? ⟨b, off + j * 3 + 2, none⟩ = some vo ∧ NumE X X w vo (el ms j).2.2 := by
 obtain ⟨xs, h1, h2, h3⟩ := h
 have hr := h1 w fun _ _ _ => rfl
 obtain ⟨b, off, cap, hv, hb, hc⟩ := Row.plain hr (fun x => by rw [encM_len]; omega) (by omega)
 simp only [Value.slice.injEq] at hv
 refine ⟨b, off, (el xs j).2.2, hv.1, hb, ?_, ?_, hc j (by omega) 2 _ rfl, (h3 j hj).2.2⟩
 ·rw [← (h3 j hj).1]; exact hc j (by omega) 0 _ rfl
 ·rw [← (h3 j hj).2.1]; exact hc j (by omega) 1 _ rfl
theorem back_at {w w' : World} {P : Nat} {o : Obj} (hP : P < w'.heap.size) : ∀ b, ({ w' with heap := w'.heap.setIfInBounds P o } : World).heap[b]? = if b = P then some o else w'.heap[b]? := fun b => by
 show (w'.heap.setIfInBounds P o)[b]? = _
 rw [Array.getElem?_setIfInBounds]
 by_cases e : P = b
 ·subst e; rw [if_pos rfl, if_pos hP, if_pos rfl]
 ·rw [if_neg e, if_neg (Ne.symm e)]
theorem NumE.zero {X : Nat} {w w' : World} {v : Value} {l : List Int} (h : NumE X X w v l) (hz : ∀ x ∈ l, x ≠ 0) {P : Nat} {t : TypeId} (hP : Blk w P #[.int .i64 0, .slice none 0 0] t) (hk : ∀ b, b < w.heap.size → b ≠ P → w'.heap[b]? = w.heap[b]?) (hs : w.heap.size ≤ w'.heap.size) (hX : P ≠ X) : NumE X X w' v l := fun w2 hw => by
 have hPl := hP.lt
 by_cases hP2 : P < w2.heap.size
 ·have g := back_at (w := w) (o := .cells #[.int .i64 0, .slice none 0 0] t (0, 0)) hP2
  have h2 : Nums { w2 with heap := w2.heap.setIfInBounds P (.cells #[.int .i64 0, .slice none 0 0] t (0, 0)) } v l := h _ fun b hb hx _ => by
   rw [g b]
   by_cases e : b = P
   ·subst e; rw [if_pos rfl]; exact hP.symm
   ·rw [if_neg e]; exact (hw b (by omega) hx hx).trans (hk b hb e)
  rcases h2 with hn | ⟨x, cap, hv, hc⟩
  ·exact .inl hn
  ·refine .inr ⟨x, cap, hv, fun j hj i u hu => ?_⟩
   have h3 := hc j hj i u hu
   have hi0 : i = 0 := by
    rcases i with _ | i
    ·rfl
    ·simp [encI1] at hu
   subst hi0
   simp [encI1] at hu
   have hne : (x.add (j * 1 + 0)).block ≠ P := fun e => by
    simp only [World.cell?, g, e, if_true] at h3
    subst hu
    rcases ho : (x.add (j * 1 + 0)).off with _ | _ | o
    ·rw [ho] at h3; simp at h3; exact hz _ (el_mem hj) h3.2.symm
    ·rw [ho] at h3; simp at h3
    ·rw [ho] at h3; simp at h3
   rw [World.cell?_of_block (w := w2) (w' := { w2 with heap := w2.heap.setIfInBounds P (.cells #[.int .i64 0, .slice none 0 0] t (0, 0)) }) (a := x.add (j * 1 + 0)) (by rw [g, if_neg hne])] at h3
   exact h3
 ·exfalso
  have := hw P (by omega) hX hX
  have h5 : P < w'.heap.size := by omega
  rw [Array.getElem?_eq_none (by omega), Array.getElem?_eq_getElem h5] at this
  cases this
theorem MarksX.zero {X : Nat} {w w' : World} {v : Value} {ms : List Mk} (h : MarksX X w v ms) (hz : ∀ j, j < ms.length → ∀ x ∈ (el ms j).2.2, x ≠ 0) {P : Nat} {t : TypeId} (hP : Blk w P #[.int .i64 0, .slice none 0 0] t) (hk : ∀ b, b < w.heap.size → b ≠ P → w'.heap[b]? = w.heap[b]?) (hs : w.heap.size ≤ w'.heap.size) (hX : P ≠ X) : MarksX X w' v ms := by
 obtain ⟨xs, h1, h2, h3⟩ := h
 refine ⟨xs, fun w2 hw => ?_, h2, fun j hj => ⟨(h3 j hj).1, (h3 j hj).2.1, (h3 j hj).2.2.zero (hz j hj) hP hk hs hX⟩⟩
 have hPl := hP.lt
 have hP2 : P < w2.heap.size := by
  by_cases h9 : P < w2.heap.size
  ·exact h9
  ·exfalso
   have := hw P (by omega) hX
   have h5 : P < w'.heap.size := by omega
   rw [Array.getElem?_eq_none (by omega), Array.getElem?_eq_getElem h5] at this
   cases this
 have g := back_at (w := w) (o := .cells #[.int .i64 0, .slice none 0 0] t (0, 0)) hP2
 have h9 : Row 3 encM { w2 with heap := w2.heap.setIfInBounds P (.cells #[.int .i64 0, .slice none 0 0] t (0, 0)) } v xs := h1 _ fun b hb hx => by
  rw [g b]
  by_cases e : b = P
  ·subst e; rw [if_pos rfl]; exact hP.symm
  ·rw [if_neg e]; exact (hw b (by omega) hx).trans (hk b hb e)
 rcases h9 with hn | ⟨x, cap, hv, hc⟩
 ·exact .inl hn
 ·refine .inr ⟨x, cap, hv, fun j hj i u hu => ?_⟩
  have hne : x.block ≠ P := fun e => by
   have c0 := hc j hj 0 _ rfl
   have c1 := hc j hj 1 _ rfl
   have c2 := hc j hj 2 _ rfl
   have hb : ∀ k, (x.add k).block = P := fun k => by unfold Addr.add; split <;> simp [e]
   have ho : ∀ k, (x.add k).off = x.off + k := fun k => by
    unfold Addr.add
    split
    ·rename_i h9; simp [h9]
    ·rfl
   simp only [World.cell?, g, hb, ho, if_true] at c0 c1 c2
   have : x.off + (j * 3 + 2) < 2 := by
    by_cases h8 : x.off + (j * 3 + 2) < 2
    ·exact h8
    ·rw [Array.getElem?_eq_none (by simp; omega)] at c2; simp at c2
   omega
  have h3 := hc j hj i u hu
  have hb : (x.add (j * 3 + i)).block ≠ P := by unfold Addr.add; split <;> exact hne
  rw [World.cell?_of_block (w := w2) (w' := { w2 with heap := w2.heap.setIfInBounds P (.cells #[.int .i64 0, .slice none 0 0] t (0, 0)) }) (a := x.add (j * 3 + i)) (by rw [g, if_neg hb])] at h3
  exact h3
def TabM (w : World) (B X : Nat) (ms : List Mk) : Prop := ∃ xs : List MkV, Blk w B (xs.flatMap encM).toArray 67 ∧ xs.length = ms.length ∧ ∀ j, j < ms.length → (el xs j).1 = (el ms j).1 ∧ (el xs j).2.1 = (el ms j).2.1 ∧ NumE B X w (el xs j).2.2 (el ms j).2.2
theorem TabM.marksX {w : World} {B X : Nat} {ms : List Mk} (h : TabM w B X ms) (hne : B ≠ X) : MarksX X w (.slice (some ⟨B, 0, none⟩) ms.length ms.length) ms := by
 obtain ⟨xs, h1, h2, h3⟩ := h
 refine ⟨xs, fun w' hw => .inr ⟨⟨B, 0, none⟩, ms.length, by rw [h2], fun j hj i u hu => ?_⟩, h2, fun j hj => ⟨(h3 j hj).1, (h3 j hj).2.1, (h3 j hj).2.2.left⟩⟩
 have hi : i < 3 := by
  by_cases h9 : i < 3
  ·exact h9
  ·rw [List.getElem?_eq_none (by rw [encM_len]; omega)] at hu; cases hu
 have := flat_at encM_len xs j hj i hi
 have h5 := h1.cell (j * 3 + i) (v := u) (by rw [List.getElem?_toArray, this]; exact hu)
 have ha : (⟨B, 0, none⟩ : Addr).add (j * 3 + i) = ⟨B, j * 3 + i, none⟩ := by
  unfold Addr.add
  split
  ·rename_i h9
   simp [h9]
  ·simp
 rw [ha, World.cell?_of_block (w := w) (w' := w') (a := ⟨B, j * 3 + i, none⟩) (hw B h1.lt hne)]
 exact h5
theorem TabM.lt {w : World} {B X : Nat} {ms : List Mk} (h : TabM w B X ms) : B < w.heap.size := by obtain ⟨xs, h, _⟩ := h; exact h.lt
theorem TabM.below {w w' : World} {B X : Nat} {ms : List Mk} (h : TabM w B X ms) (hb : Below w.heap.size w w') : TabM w' B X ms := by
 obtain ⟨xs, h1, h2, h3⟩ := h
 exact ⟨xs, h1.below hb h1.lt, h2, fun j hj => ⟨(h3 j hj).1, (h3 j hj).2.1, (h3 j hj).2.2.below hb⟩⟩
theorem TabM.marks {w : World} {B X : Nat} {ms : List Mk} (h : TabM w B X ms) : Marks w (.slice (some ⟨B, 0, none⟩) ms.length ms.length) ms := by
 obtain ⟨xs, h1, h2, h3⟩ := h
 refine ⟨xs, .inr ⟨⟨B, 0, none⟩, ms.length, by rw [h2], fun j hj i u hu => ?_⟩, h2, fun j hj => ⟨(h3 j hj).1, (h3 j hj).2.1, (h3 j hj).2.2.nums⟩⟩
 have hi : i < 3 := by
  by_cases h9 : i < 3
  ·exact h9
  ·rw [List.getElem?_eq_none (by rw [encM_len]; omega)] at hu; cases hu
 have := flat_at encM_len xs j hj i hi
 have h5 := h1.cell (j * 3 + i) (v := u) (by rw [List.getElem?_toArray, this]; exact hu)
 have ha : (⟨B, 0, none⟩ : Addr).add (j * 3 + i) = ⟨B, j * 3 + i, none⟩ := by
  unfold Addr.add
  split
  ·rename_i h9
   simp [h9]
  ·simp
 rw [ha]
 exact h5
theorem TabM.get {w : World} {B X : Nat} {ms : List Mk} (h : TabM w B X ms) {j : Nat} (hj : j < ms.length) : ∃ (a : Option Addr) (c : Nat), w.cell? ⟨B, j * 3, none⟩ = some (.int .i64 (el ms j).1) ∧ w.cell? ⟨B, j * 3 + 1, none⟩ = some (.int .i64 (el ms j).2.1) ∧ w.cell? ⟨B, j * 3 + 2, none⟩ = some (.slice a (el ms j).2.2.length c) ∧ Nums w (.slice a (el ms j).2.2.length c) (el ms j).2.2 ∧ w.frozen? ⟨B, j * 3, none⟩ = false ∧ w.frozen? ⟨B, j * 3 + 1, none⟩ = false ∧ w.frozen? ⟨B, j * 3 + 2, none⟩ = false := by
 have hf : ∀ i, w.frozen? ⟨B, i, none⟩ = false := by obtain ⟨xs, h1, _⟩ := h; exact fun i => h1.fz i
 obtain ⟨a, cap, hv, hc⟩ := h.marks.get
 obtain ⟨b, off, vo, ha, hb, g0, g1, g2, g3⟩ := hc j hj
 simp only [Value.slice.injEq] at hv
 rw [ha] at hv
 simp only [Option.some.injEq, Addr.mk.injEq] at hv
 obtain ⟨⟨rfl, rfl, _⟩, _⟩ := hv
 simp only [Nat.zero_add] at g0 g1 g2
 obtain ⟨ao, co, rfl⟩ := Row.sl g3
 exact ⟨ao, co, g0, g1, g2, g3, hf _, hf _, hf _⟩
theorem set_mark {xs : List MkV} {k : Nat} (hk : k < xs.length) (p : MkV) : (((xs.flatMap encM).toArray.setIfInBounds (k * 3) (.int .i64 p.1)).setIfInBounds (k * 3 + 1) (.int .i64 p.2.1)).setIfInBounds (k * 3 + 2) p.2.2 = ((xs.set k p).flatMap encM).toArray := by
 apply Array.ext_getElem?
 intro t
 have hl : (xs.flatMap encM).length = xs.length * 3 := flat_length encM_len xs
 by_cases ht : t < xs.length * 3
 ·have he : t / 3 * 3 + t % 3 = t := by omega
  have h1 := flat_at encM_len xs (t / 3) (by omega) (t % 3) (by omega)
  have h2 := flat_at encM_len (xs.set k p) (t / 3) (by simp; omega) (t % 3) (by omega)
  rw [he] at h1 h2
  rw [Array.getElem?_setIfInBounds, Array.getElem?_setIfInBounds, Array.getElem?_setIfInBounds]
  simp only [List.getElem?_toArray]
  rw [h1, h2]
  simp only [Array.size_setIfInBounds, List.size_toArray, hl]
  by_cases hq : t / 3 = k
  ·have hel : el (xs.set k p) (t / 3) = p := by rw [hq, el_get (by simpa using hk)]; simp
   rw [hel]
   have h01 : t = k * 3 ∨ t = k * 3 + 1 ∨ t = k * 3 + 2 := by omega
   rcases h01 with h | h | h
   ·have e0 : t % 3 = 0 := by omega
    rw [if_neg (by omega), if_neg (by omega), if_pos h.symm, if_pos (by omega), e0]; rfl
   ·have e0 : t % 3 = 1 := by omega
    rw [if_neg (by omega), if_pos h.symm, if_pos (by omega), e0]; rfl
   ·have e0 : t % 3 = 2 := by omega
    rw [if_pos h.symm, if_pos (by omega), e0]; rfl
  ·have hel : el (xs.set k p) (t / 3) = el xs (t / 3) := by simp [el, List.getElem?_set_ne (Ne.symm hq)]
   rw [hel, if_neg (by omega), if_neg (by omega), if_neg (by omega)]
 ·rw [Array.getElem?_eq_none (by simp only [Array.size_setIfInBounds, List.size_toArray, hl]; omega), List.getElem?_toArray, List.getElem?_eq_none (by rw [flat_length encM_len]; simp; omega)]
theorem TabM.put {w : World} {B X : Nat} {ms : List Mk} (h : TabM w B X ms) {j : Nat} (hj : j < ms.length) {k : Mk} {vo : Value} (hv : NumE B X w vo k.2.2) :
  TabM (((w.setCell ⟨B, j * 3, none⟩ (.int .i64 k.1)).setCell ⟨B, j * 3 + 1, none⟩ (.int .i64 k.2.1)).setCell ⟨B, j * 3 + 2, none⟩ vo) B X (ms.set j k) := by
 obtain ⟨xs, h1, h2, h3⟩ := h
 refine ⟨xs.set j (k.1, k.2.1, vo), ?_, by simp [h2], ?_⟩
 ·have h9 := ((h1.set (j * 3) (.int .i64 k.1)).set (j * 3 + 1) (.int .i64 k.2.1)).set (j * 3 + 2) vo
  rw [set_mark (by omega) (k.1, k.2.1, vo)] at h9
  exact h9
 ·intro i hi
  rw [List.length_set] at hi
  by_cases e : i = j
  ·subst e
   rw [el_get (by simp; omega), el_get (by simpa using hi)]
   simp only [List.getElem_set_self]
   exact ⟨by simp, by simp, ((hv.set _ _).set _ _).set _ _⟩
  ·have e1 : el (xs.set j (k.1, k.2.1, vo)) i = el xs i := by simp [el, List.getElem?_set_ne (Ne.symm e)]
   have e2 : el (ms.set j k) i = el ms i := by simp [el, List.getElem?_set_ne (Ne.symm e)]
   rw [e1, e2]
   exact ⟨(h3 i hi).1, (h3 i hi).2.1, (((h3 i hi).2.2.set _ _).set _ _).set _ _⟩
theorem made_marks (n : Nat) : madeCells (Value.cells (.agg #[.int .i64 0, .int .i64 0, .slice none 0 0])) (n * 3) = ((List.replicate n ((0, 0, .slice none 0 0) : MkV)).flatMap encM).toArray := by
 apply Array.ext_getElem?
 intro t
 have hz : Value.cells (.agg #[.int .i64 0, .int .i64 0, .slice none 0 0]) = #[.int .i64 0, .int .i64 0, .slice none 0 0] := rfl
 by_cases ht : t < n * 3
 ·have h2 := flat_at encM_len (List.replicate n ((0, 0, .slice none 0 0) : MkV)) (t / 3) (by simp; omega) (t % 3) (by omega)
  have he : t / 3 * 3 + t % 3 = t := by omega
  rw [he] at h2
  simp only [List.getElem?_toArray]
  rw [h2, el_get (by simp; omega), List.getElem_replicate]
  simp only [madeCells, hz, Array.getElem?_map]
  rw [Array.getElem?_eq_getElem (by simpa using ht)]
  have h01 : t % 3 = 0 ∨ t % 3 = 1 ∨ t % 3 = 2 := by omega
  rcases h01 with h | h | h <;> simp [h, encM]
 ·rw [Array.getElem?_eq_none (by simp [size_madeCells]; omega), List.getElem?_toArray, List.getElem?_eq_none (by rw [flat_length encM_len]; simp; omega)]
theorem run_marks (n : Nat) (hn : n ≤ 1000) (W : World) : (Instr.makeSlice 26 (.int .i64 (n : Int)) (.int .i64 (n : Int))).run Try.prog W = .ok (.slice (some ⟨W.heap.size, 0, none⟩) n n) (W.alloc (.cells ((List.replicate n ((0, 0, .slice none 0 0) : MkV)).flatMap encM).toArray 67)) := by
 obtain ⟨i1, hi1, hy0, hy1, hy2⟩ := info_parts infoMark
 have h := run_make (P := Try.prog) W 26 67 i1 _ Try.underlying26 hi1 hy0 .i64 .i64 n n (by omega) (by omega) (by rw [hy2]; omega) (by omega)
 rw [hy1, Int.toNat_natCast, made_marks] at h
 exact h
def nobL (n k : Nat) : List Mk := List.replicate k (-1, 0, []) ++ List.replicate (n - k) (0, 0, [])
theorem nobL_len {n k : Nat} (h : k ≤ n) : (nobL n k).length = n := by simp [nobL]; omega
theorem nobL_el {n k j : Nat} (hj : j < n) (hk : k ≤ n) : el (nobL n k) j = if j < k then (-1, 0, []) else (0, 0, []) := by
 rw [el_get (by rw [nobL_len hk]; exact hj)]
 unfold nobL
 by_cases h : j < k
 ·rw [List.getElem_append_left (by simpa using h), if_pos h, List.getElem_replicate]
 ·rw [List.getElem_append_right (by simpa using h), if_neg h, List.getElem_replicate]
set_option maxRecDepth 100000 in
theorem nobody_any (X n : Nat) (w : World) (hn : n ≤ 1000) :
  Calls Try.prog 32 #[.int .i64 n] w fun e w' => e = .returned (.slice (some ⟨w.heap.size, 0, none⟩) n n) ∧ TabM w' w.heap.size X (List.replicate n (-1, 0, [])) ∧ Below w.heap.size w w' := by
 have hmake := run_marks n hn w
 go_enter Try.func32, Try.ntmps32
 go_wp2
 go_loopw [4] (fun i wr => ∃ k : Nat, k ≤ n ∧ i = .int .i64 k ∧ Hid (TabM wr w.heap.size X (nobL n k)) ∧ Hid (Below w.heap.size w wr)) (fun i _ => n - (intOf i).toNat)
 case atStart =>
  refine ⟨0, Nat.zero_le _, rfl, ⟨List.replicate n ((0, 0, .slice none 0 0) : MkV), Blk.made w _ _, by simp [nobL], fun j hj => ?_⟩, by show Below _ _ _; go_grown⟩
  rw [nobL_len (Nat.zero_le _)] at hj
  rw [nobL_el hj (Nat.zero_le _), if_neg (by omega), el_get (by simpa using hj), List.getElem_replicate]
  exact ⟨rfl, rfl, fun w' _ => .inl ⟨rfl, rfl⟩⟩
 case round =>
  obtain ⟨k, hk, rfl, hT, hb⟩ := hrel
  by_cases hlt : k < n
  ·have hk0 : (0 : Int) ≤ (k : Int) := by omega
   have hk1 : (k : Int) < (n : Int) := by omega
   obtain ⟨a0, c0, q0, q1, q2, q3, f0, f1, f2⟩ := hT.out.get (j := k) (by rw [nobL_len hk]; exact hlt)
   have zB := hT.out.lt
   have HT2 : Hid (TabM (wr.setCell ⟨w.heap.size, k * 3, none⟩ (.int .i64 (-1))) w.heap.size X (nobL n (k + 1))) := by
    obtain ⟨xs, h1, h2, h3⟩ := hT.out
    have hxk : k < xs.length := by rw [h2, nobL_len hk]; exact hlt
    rw [nobL_len hk] at h2 h3
    have hek := h3 k hlt
    rw [nobL_el hlt hk, if_neg (by omega)] at hek
    refine ⟨xs.set k (-1, (el xs k).2.1, (el xs k).2.2), ?_, by rw [nobL_len (by omega)]; simp [h2], fun j hj => ?_⟩
    ·have h9 := h1.set (k * 3) (.int .i64 (-1))
     have h10 := set_mark hxk (-1, (el xs k).2.1, (el xs k).2.2)
     have g1 := flat_at encM_len xs k hxk 1 (by omega)
     have g2 := flat_at encM_len xs k hxk 2 (by omega)
     have hl : (xs.flatMap encM).length = xs.length * 3 := flat_length encM_len xs
     rw [← h10]
     have e1 : (((xs.flatMap encM).toArray.setIfInBounds (k * 3) (.int .i64 (-1))).setIfInBounds (k * 3 + 1) (.int .i64 (el xs k).2.1)).setIfInBounds (k * 3 + 2) (el xs k).2.2 = (xs.flatMap encM).toArray.setIfInBounds (k * 3) (.int .i64 (-1)) := by
      apply Array.ext_getElem?
      intro t
      rw [Array.getElem?_setIfInBounds, Array.getElem?_setIfInBounds]
      by_cases t2 : k * 3 + 2 = t
      ·subst t2
       rw [if_pos rfl, if_pos (by simp [hl]; omega), Array.getElem?_setIfInBounds, if_neg (by omega), List.getElem?_toArray, g2]
       rfl
      ·rw [if_neg t2]
       by_cases t1 : k * 3 + 1 = t
       ·subst t1
        rw [if_pos rfl, if_pos (by simp [hl]; omega), Array.getElem?_setIfInBounds, if_neg (by omega), List.getElem?_toArray, g1]
        rfl
       ·rw [if_neg t1]
     rw [e1]
     exact h9
    ·rw [nobL_len (by omega)] at hj
     rw [nobL_el hj (by omega)]
     by_cases e : j = k
     ·subst e
      rw [if_pos (by omega), el_get (by simpa using hxk), List.getElem_set_self]
      exact ⟨rfl, hek.2.1, hek.2.2.set _ _⟩
     ·have e1 : el (xs.set k (-1, (el xs k).2.1, (el xs k).2.2)) j = el xs j := by simp [el, List.getElem?_set_ne (Ne.symm e)]
      have h5 := h3 j hj
      rw [nobL_el hj hk] at h5
      rw [e1]
      by_cases hjk : j < k
      ·rw [if_pos hjk] at h5; rw [if_pos (by omega)]; exact ⟨h5.1, h5.2.1, h5.2.2.set _ _⟩
      ·rw [if_neg hjk] at h5; rw [if_neg (by omega)]; exact ⟨h5.1, h5.2.1, h5.2.2.set _ _⟩
   go_wp2
   go_roundw
   case rel => exact ⟨k + 1, by omega, by go_num, HT2, by show Below _ _ _; have h9 := hb.out; go_grown⟩
   case measure => simp [intOf]; omega
  ·have hnl : ¬ (k : Int) < (n : Int) := by omega
   have hkn : k = n := by omega
   have HT2 : Hid (TabM wr w.heap.size X (List.replicate n (-1, 0, []))) := by
    show TabM _ _ _ _
    have h := hT.out
    rw [hkn] at h
    simpa [nobL] using h
   go_wp2
   go_ret
   exact ⟨rfl, HT2.out, hb.out⟩
end Go.Proofs.Ytkeeiihaijhdoaa.Sm
