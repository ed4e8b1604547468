/- Memory that is as it was from a block on; a row of states made in one block. -/
import Derived.Test.YthajkkobgfighaaGreatDoorJac
import Derived.Test.YthajkkobgfighaaGreatDoorJab
import Derived.Laws.MakeOwn
import Derived.Test.YthajkkobgfighaaGreatDoorJai
namespace Go.Proofs.YthajkkobgfighaaGreatDoor.Wt
open Go.ChangeShapes Go.WideShapes Go.ChangeAt Go.RowKit
open Go.Proofs.YthajkkobgfighaaGreatDoor.Pl
set_option linter.unusedVariables false
set_option linter.unusedSimpArgs false
theorem grown_of_below {w w' : World} (hb : Below w.heap.size w w') : w.grownBy w' none := ⟨hb.os, hb.tape, hb.output, hb.size, fun k hk _ => hb.block k hk⟩
theorem own_below {w w' : World} {base : Nat} {e : TypeId} {s : Nat} {v : Value} {n : Nat} {xs : List Value} (h : w.ownsRow base e s v n xs) (hb : Below w.heap.size w w') : w'.ownsRow base e s v n xs :=
 h.kept (grown_of_below hb) (by rcases v.ownBlock with _ | _ <;> simp)
theorem own_mono {w : World} {base base' : Nat} {e : TypeId} {s : Nat} {v : Value} {n : Nat} {xs : List Value} (h : w.ownsRow base e s v n xs) (hb : base' ≤ base) : w.ownsRow base' e s v n xs := by
 refine ⟨h.1, ?_⟩
 rcases h.2 with h2 | ⟨g, cap, cur, hv, hg, h3⟩
 ·exact .inl h2
 ·exact .inr ⟨g, cap, cur, hv, Nat.le_trans hb hg, h3⟩
def Agree (B : Nat) (w w' : World) : Prop := ∀ k, B ≤ k → k < w.heap.size → w'.heap[k]? = w.heap[k]?
theorem Agree.refl (B : Nat) (w : World) : Agree B w w := fun _ _ _ => rfl
theorem agree_set {B : Nat} {w : World} {a : Addr} (ha : a.block < B) (u : Value) : Agree B w (w.setCell a u) := fun k hk _ => Below.heap_setCell w a u k (by omega)
theorem Agree.trans {B : Nat} {w w' w'' : World} (h : Agree B w w') (hs : w.heap.size ≤ w'.heap.size) (k : Agree B w' w'') : Agree B w w'' := fun i hi hl => (k i hi (Nat.lt_of_lt_of_le hl hs)).trans (h i hi hl)
theorem Agree.mono {B B' : Nat} {w w' : World} (h : Agree B w w') (hB : B ≤ B') : Agree B' w w' := fun k hk hl => h k (Nat.le_trans hB hk) hl
theorem agree_below {B : Nat} {w w' : World} (hb : Below w.heap.size w w') : Agree B w w' := fun k _ hl => hb.block k hl
theorem own_agree {w w' : World} {base : Nat} {e : TypeId} {s : Nat} {v : Value} {n : Nat} {xs : List Value} (h : w.ownsRow base e s v n xs) (hg : Agree base w w') : w'.ownsRow base e s v n xs := by
 refine ⟨h.1, ?_⟩
 rcases h.2 with h2 | ⟨g, cap, cur, hv, hb, hh, h3⟩
 ·exact .inl h2
 ·exact .inr ⟨g, cap, cur, hv, hb, (hg g hb (lt_of_block hh)).trans hh, h3⟩
theorem blk_agree {w w' : World} {base b : Nat} {cs : Array Value} {t : TypeId} (h : Blk w b cs t) (hb : base ≤ b) (hg : Agree base w w') : Blk w' b cs t := (hg b hb h.lt).trans h
def MachFrom (B : Nat) (w : World) (v : Value) (m : Mc) : Prop := ∀ w', Agree B w w' → Mach w' v m
theorem MachFrom.mach {B : Nat} {w : World} {v : Value} {m : Mc} (h : MachFrom B w v m) : Mach w v m := h w (Agree.refl _ _)
theorem MachFrom.set {B : Nat} {w : World} {v : Value} {m : Mc} (h : MachFrom B w v m) {a : Addr} (ha : a.block < B) (u : Value) : MachFrom B (w.setCell a u) v m := fun w' hg => h w' ((agree_set ha u).trans (by simp [World.setCell]) hg)
theorem MachFrom.mono {B B' : Nat} {w : World} {v : Value} {m : Mc} (h : MachFrom B' w v m) (hB : B ≤ B') : MachFrom B w v m := fun w' hg => h w' (hg.mono hB)
theorem MachFrom.later {B : Nat} {w w1 : World} {v : Value} {m : Mc} (h : MachFrom B w v m) (hb : Below w.heap.size w w1) : MachFrom B w1 v m := fun w' hg => h w' ((agree_below hb).trans hb.size hg)
theorem MachFrom.drew {B : Nat} {w : World} {v : Value} {m : Mc} (h : MachFrom B w v m) : MachFrom B w.drew v m := h
theorem MachFrom.sl {B : Nat} {w : World} {v : Value} {m : Mc} (h : MachFrom B w v m) : ∃ a c, v = .agg #[.int .i64 m.1, .slice a m.2.length c] := by
 obtain ⟨vs, rfl, hS⟩ := h.mach
 obtain ⟨a, c, rfl⟩ := hS.sl
 exact ⟨a, c, rfl⟩
def resM (r : Int) (m : Mc) : Mc := if r = 0 then m else (0, [])
theorem made_states (n : Nat) : madeCells (Value.cells (.agg #[.int .i64 0, .slice none 0 0])) (n * 2) = ((List.replicate n ((0 : Int), Value.slice none 0 0)).flatMap encS).toArray := by
 apply Array.ext_getElem?
 intro t
 have hz : Value.cells (.agg #[.int .i64 0, .slice none 0 0]) = #[.int .i64 0, .slice none 0 0] := rfl
 by_cases ht : t < n * 2
 ·have h2 := flat_at encS_len (List.replicate n ((0 : Int), Value.slice none 0 0)) (t / 2) (by simp; omega) (t % 2) (by omega)
  have he : t / 2 * 2 + t % 2 = t := by omega
  rw [he] at h2
  simp only [List.getElem?_toArray]
  rw [h2, el_get (by simp; omega), List.getElem_replicate]
  simp only [madeCells, hz, Array.getElem?_map]
  rw [Array.getElem?_eq_getElem (by simpa using ht)]
  have h01 : t % 2 = 0 ∨ t % 2 = 1 := by omega
  rcases h01 with h | h <;> simp [h, encS]
 ·rw [Array.getElem?_eq_none (by simp [size_madeCells]; omega), List.getElem?_toArray, List.getElem?_eq_none (by rw [flat_length encS_len]; simp; omega)]
theorem set_state {vs : List (Int × Value)} {k : Nat} (hk : k < vs.length) (p : Int × Value) : ((vs.flatMap encS).toArray.setIfInBounds (k * 2) (.int .i64 p.1)).setIfInBounds (k * 2 + 1) p.2 = ((vs.set k p).flatMap encS).toArray := by
 apply Array.ext_getElem?
 intro t
 have hl : (vs.flatMap encS).length = vs.length * 2 := flat_length encS_len vs
 by_cases ht : t < vs.length * 2
 ·have he : t / 2 * 2 + t % 2 = t := by omega
  have h1 := flat_at encS_len vs (t / 2) (by omega) (t % 2) (by omega)
  have h2 := flat_at encS_len (vs.set k p) (t / 2) (by simp; omega) (t % 2) (by omega)
  rw [he] at h1 h2
  rw [Array.getElem?_setIfInBounds, Array.getElem?_setIfInBounds]
  simp only [List.getElem?_toArray]
  rw [h1, h2]
  simp only [Array.size_setIfInBounds, List.size_toArray, hl]
  by_cases hq : t / 2 = k
  ·have hel : el (vs.set k p) (t / 2) = p := by rw [hq, el_get (by simpa using hk)]; simp
   rw [hel]
   have h01 : t = k * 2 ∨ t = k * 2 + 1 := by omega
   rcases h01 with h | h
   ·have e0 : t % 2 = 0 := by omega
    rw [if_neg (by omega), if_pos h.symm, if_pos (by omega), e0]; rfl
   ·have e0 : t % 2 = 1 := by omega
    rw [if_pos h.symm, if_pos (by omega), e0]; rfl
  ·have hel : el (vs.set k p) (t / 2) = el vs (t / 2) := by simp [el, List.getElem?_set_ne (Ne.symm hq)]
   rw [hel, if_neg (by omega), if_neg (by omega)]
 ·rw [Array.getElem?_eq_none (by simp only [Array.size_setIfInBounds, List.size_toArray, hl]; omega), List.getElem?_toArray, List.getElem?_eq_none (by rw [flat_length encS_len]; simp; omega)]
theorem el_setS {α : Type} [Inhabited α] {l : List α} {k j : Nat} (hk : k < l.length) (x : α) : el (l.set k x) j = if j = k then x else el l j := by
 by_cases h : j = k
 ·subst h; rw [if_pos rfl, el_get (by simpa using hk)]; simp
 ·rw [if_neg h]; simp [el, List.getElem?_set_ne (Ne.symm h)]
theorem sts_block {w : World} {bs B : Nat} {vs : List (Int × Value)} {l : List St} (hb : Blk w bs (vs.flatMap encS).toArray 33) (hl : vs.length = l.length) (h : ∀ j, j < l.length → (el vs j).1 = (el l j).1 ∧ w.ownsRow B 48 4 (el vs j).2 (el l j).2.length ((el l j).2.flatMap encA)) :
  Sts w (.slice (some ⟨bs, 0, none⟩) l.length l.length) l := by
 refine ⟨vs, .inr ⟨⟨bs, 0, none⟩, l.length, by rw [hl], fun j hj i u hu => ?_⟩, hl, fun j hj => ⟨(h j hj).1, Row.ofOwn encA_len (h j hj).2 rfl⟩⟩
 have hi : i < 2 := by
  rcases Nat.lt_or_ge i 2 with h | h
  ·exact h
  ·rw [List.getElem?_eq_none (by rw [encS_len]; exact h)] at hu; simp at hu
 rw [Addr.add_lit, Nat.zero_add]
 refine hb.cell _ ?_
 rw [List.getElem?_toArray, flat_at encS_len vs j hj i hi]
 exact hu
theorem made_arcs (n : Nat) : madeCells (Value.cells (.agg #[.int .i64 0, .int .i64 0, .int .i64 0, .int .i64 0])) (n * 4) = ((List.replicate n ((0, 0, 0, 0) : Ar)).flatMap encA).toArray := by
 apply Array.ext_getElem?
 intro t
 have hz : Value.cells (.agg #[.int .i64 0, .int .i64 0, .int .i64 0, .int .i64 0]) = #[.int .i64 0, .int .i64 0, .int .i64 0, .int .i64 0] := rfl
 by_cases ht : t < n * 4
 ·have h2 := flat_at encA_len (List.replicate n ((0, 0, 0, 0) : Ar)) (t / 4) (by simp; omega) (t % 4) (by omega)
  have he : t / 4 * 4 + t % 4 = t := by omega
  rw [he] at h2
  simp only [List.getElem?_toArray]
  rw [h2, el_get (by simp; omega), List.getElem_replicate]
  simp only [madeCells, hz, Array.getElem?_map]
  rw [Array.getElem?_eq_getElem (by simpa using ht)]
  have h01 : t % 4 = 0 ∨ t % 4 = 1 ∨ t % 4 = 2 ∨ t % 4 = 3 := by omega
  rcases h01 with h | h | h | h <;> simp [h, encA]
 ·rw [Array.getElem?_eq_none (by simp [size_madeCells]; omega), List.getElem?_toArray, List.getElem?_eq_none (by rw [flat_length encA_len]; simp; omega)]
theorem set_arc {xs : List Ar} {k : Nat} (hk : k < xs.length) (p : Ar) : ((((xs.flatMap encA).toArray.setIfInBounds (k * 4) (.int .i64 p.1)).setIfInBounds (k * 4 + 1) (.int .i64 p.2.1)).setIfInBounds (k * 4 + 2) (.int .i64 p.2.2.1)).setIfInBounds (k * 4 + 3) (.int .i64 p.2.2.2) = ((xs.set k p).flatMap encA).toArray := by
 apply Array.ext_getElem?
 intro t
 have hl : (xs.flatMap encA).length = xs.length * 4 := flat_length encA_len xs
 by_cases ht : t < xs.length * 4
 ·have he : t / 4 * 4 + t % 4 = t := by omega
  have h1 := flat_at encA_len xs (t / 4) (by omega) (t % 4) (by omega)
  have h2 := flat_at encA_len (xs.set k p) (t / 4) (by simp; omega) (t % 4) (by omega)
  rw [he] at h1 h2
  rw [Array.getElem?_setIfInBounds, Array.getElem?_setIfInBounds, Array.getElem?_setIfInBounds, Array.getElem?_setIfInBounds]
  simp only [List.getElem?_toArray]
  rw [h1, h2]
  simp only [Array.size_setIfInBounds, List.size_toArray, hl]
  by_cases hq : t / 4 = k
  ·have hel : el (xs.set k p) (t / 4) = p := by rw [hq, el_get (by simpa using hk)]; simp
   rw [hel]
   have h01 : t = k * 4 ∨ t = k * 4 + 1 ∨ t = k * 4 + 2 ∨ t = k * 4 + 3 := by omega
   rcases h01 with h | h | h | h
   ·have e0 : t % 4 = 0 := by omega
    rw [if_neg (by omega), if_neg (by omega), if_neg (by omega), if_pos h.symm, if_pos (by omega), e0]; rfl
   ·have e0 : t % 4 = 1 := by omega
    rw [if_neg (by omega), if_neg (by omega), if_pos h.symm, if_pos (by omega), e0]; rfl
   ·have e0 : t % 4 = 2 := by omega
    rw [if_neg (by omega), if_pos h.symm, if_pos (by omega), e0]; rfl
   ·have e0 : t % 4 = 3 := by omega
    rw [if_pos h.symm, if_pos (by omega), e0]; rfl
  ·have hel : el (xs.set k p) (t / 4) = el xs (t / 4) := by simp [el, List.getElem?_set_ne (Ne.symm hq)]
   rw [hel, if_neg (by omega), if_neg (by omega), if_neg (by omega), if_neg (by omega)]
 ·rw [Array.getElem?_eq_none (by simp only [Array.size_setIfInBounds, List.size_toArray, hl]; omega), List.getElem?_toArray, List.getElem?_eq_none (by rw [flat_length encA_len]; simp; omega)]
theorem run_arcs (n : Nat) (hn : n ≤ 1000) (W : World) : (Instr.makeSlice 31 (.int .i64 (n : Int)) (.int .i64 (n : Int))).run Tryz.prog W = .ok (.slice (some ⟨W.heap.size, 0, none⟩) n n) (W.alloc (.cells ((List.replicate n ((0, 0, 0, 0) : Ar)).flatMap encA).toArray 48)) := by
 obtain ⟨i1, hi1, hy0, hy1, hy2⟩ := info_parts infoArc
 have h := run_make (P := Tryz.prog) W 31 48 i1 _ Tryz.underlying31 hi1 hy0 .i64 .i64 n n (by omega) (by omega) (by rw [hy2]; omega) (by omega)
 rw [hy1, Int.toNat_natCast, made_arcs] at h
 exact h
theorem run_states (n : Nat) (hn : n ≤ 1000) (W : World) : (Instr.makeSlice 22 (.int .i64 (n : Int)) (.int .i64 (n : Int))).run Tryz.prog W = .ok (.slice (some ⟨W.heap.size, 0, none⟩) n n) (W.alloc (.cells ((List.replicate n ((0 : Int), Value.slice none 0 0)).flatMap encS).toArray 33)) := by
 obtain ⟨i1, hi1, hy0, hy1, hy2⟩ := info_parts infoState
 have h := run_make (P := Tryz.prog) W 22 33 i1 _ Tryz.underlying22 hi1 hy0 .i64 .i64 n n (by omega) (by omega) (by rw [hy2]; omega) (by omega)
 rw [hy1, Int.toNat_natCast, made_states] at h
 exact h
theorem arcs_block {w : World} {g B : Nat} {xs : List Ar} (h : Blk w g (xs.flatMap encA).toArray 48) (hB : B ≤ g) (hl : xs.length ≤ 1000) : w.ownsRow B 48 4 (.slice (some ⟨g, 0, none⟩) xs.length xs.length) xs.length (xs.flatMap encA) :=
 ⟨flat_length encA_len xs, .inr ⟨g, xs.length, _, rfl, hB, h, Nat.le_refl _, by unfold maxLen; omega, by simp [flat_length encA_len], by rw [List.take_of_length_le]; rw [Array.length_toList, List.size_toArray, flat_length encA_len]; exact Nat.le_refl _⟩⟩
theorem JoK.setN {J b o : Nat} {w wr : World} {v : Value} (h : JoK J w wr) (hb : w.heap.size ≤ b) : JoK J w (wr.setCell ⟨b, o, none⟩ v) := ⟨by simp [World.setCell]; exact h.1, fun q cs t hq h1 h2 => (h.2 q cs t hq h1 h2).setO _ _ (by have := hq.lt; show q ≠ b; omega)⟩
theorem blkNeL {w : World} {a b : Nat} {cs ds : Array Value} {t u : TypeId} (h : Blk w a cs t) (k : Blk w b ds u) (hne : t ≠ u) : a ≠ b := fun e => by
 subst e
 unfold Blk at h k
 rw [h] at k
 simp only [Option.some.injEq, Obj.cells.injEq] at k
 exact hne k.2.1
theorem take_set {xs : List Ar} {i : Nat} {p : Ar} (h : i < xs.length) : (xs.set i p).take (i + 1) = xs.take i ++ [p] := by
 rw [take_el (by rw [List.length_set]; exact h)]
 congr 1
 ·rw [List.take_set_of_le (Nat.le_refl _)]
 ·simp [el, h]
structure LedI (l : List St) (f : Nat → Nat) (L : List Nat) (o : Nat) (w wr : World) (base J gn n : Nat) (vk vf : Value) (K Ns : List Int) (Lc : List Nat) (ac : List Ar) (Gl : Nat) (xs : List Ar) (i : Nat) : Prop where
 jn : JnI wr base J gn n vk vf Ns Lc
 nb : NbI n K Ns Lc
 ar : ArcI l f L o i Lc ac
 bl : Blk wr Gl (xs.flatMap encA).toArray 48
 tk : xs.take i = ac
 jk : JoK J w wr
 bel : Below base w wr
section
variable {l : List St} {f : Nat → Nat} {L : List Nat} {o : Nat} {w wr w' : World} {base J gn n : Nat} {vk vf : Value} {K Ns : List Int} {Lc : List Nat} {ac : List Ar} {Gl : Nat} {xs : List Ar} {i : Nat}
theorem LedI.later (h : LedI l f L o w wr base J gn n vk vf K Ns Lc ac Gl xs i) (hb : Below wr.heap.size wr w') (hB : base ≤ wr.heap.size) : LedI l f L o w w' base J gn n vk vf K Ns Lc ac Gl xs i := ⟨h.jn.later hb, h.nb, h.ar, h.bl.below hb h.bl.lt, h.tk, h.jk.trans (JoK.of hb), h.bel.trans (hb.mono hB)⟩
end
set_option maxRecDepth 100000 in
set_option maxHeartbeats 6400000 in
theorem led_any (w0 w : World) (l : List St) (f : Nat → Nat) (L : List Nat) (o : Nat) (base J gn gk n : Nat) (vf : Value) (K Ns : List Int) (va : Value) (fin : Int) (ar : List Ar) (h : JnI w base J gn n (.slice (some ⟨gk, 0, none⟩) n n) vf Ns L) (hI : NbI n K Ns L) (hK : ∀ q, q < n → ∃ κ : Nat, el K q = (κ : Int) ∧ κ < n) (hKl : K.length = n) (hB : Blk w0 gk (K.map (Value.int .i64)).toArray 3) (hA : Arcs w0 va ar) (hb0 : Below w0.heap.size w0 w) (hw0 : w0.heap.size ≤ base) (hn : n ≤ 60) (hln : l.length = n) (hbw : base ≤ w.heap.size) (hKF : ∀ q p, q < n → p < n → (el K q = el K p ↔ f q = f p)) (hso : el l o = (fin, ar)) (hto : ∀ i, i < ar.length → ∃ t : Nat, (el ar i).2.2.2 = (t : Int) ∧ t < n) (h400 : ar.length ≤ 400) (A0 : ArcI l f L o 0 L []) (hlen : ∀ i Lc ac, ArcI l f L o i Lc ac → i ≤ ar.length → Lc.length ≤ 60 ∧ ac.length = i) :
  Calls Tryz.prog 28 #[.pointer (some ⟨J, 0, none⟩), va] w fun e w' => ∃ (G : Nat) (vf' : Value) (Ns' : List Int) (Lc : List Nat) (ac : List Ar), e = .returned (.slice (some ⟨G, 0, none⟩) ar.length ar.length) ∧ ArcI l f L o ar.length Lc ac ∧ NbI n K Ns' Lc ∧ JnI w' base J gn n (.slice (some ⟨gk, 0, none⟩) n n) vf' Ns' Lc ∧ OwnArcs w' base (.slice (some ⟨G, 0, none⟩) ar.length ar.length) ac ∧ JoK J w w' ∧ Below base w w' := by
 obtain ⟨aa, ca, rfl, hca⟩ := hA.get
 have HCA := hidP hca
 have HTO := hidP hto
 have HLN := hidP hlen
 have HNJ := hidP (fun W Lc' vf' Ns' t (h1 : JnI W base J gn n (.slice (some ⟨gk, 0, none⟩) n n) vf' Ns' Lc') (h2 : NbI n K Ns' Lc') (h3 : Below w0.heap.size w0 W) (h4 : t < n) (h5 : Lc'.length ≤ 60) (h6 : base ≤ W.heap.size) => numJ_any w0 W base J gn gk n vf' K Ns' Lc' t h1 h2 hK hKl hB h3 hw0 h4 hn h5 h6)
 have HOL : Hid (∀ (i : Nat) (Lc : List Nat) (ac : List Ar) (t j : Nat), ArcI l f L o i Lc ac → i < ar.length → (el ar i).2.2.2 = (t : Int) → t < n → NbI n K Ns Lc ∨ True → j < Lc.length → el Lc j < n → el K (el Lc j) = el K t → ArcI l f L o (i + 1) Lc (ac ++ [((el ar i).1, (el ar i).2.1, (el ar i).2.2.1, (j : Int))])) := fun i Lc ac t j h1 h2 h3 h4 _ h5 h6 h7 => by
  have h9 := h1.old (by rw [hso]; exact h2) (t := t) (by rw [hso]; exact h3) h5 ((hKF _ _ h6 h4).1 h7)
  rw [hso] at h9
  exact h9
 have HNE : Hid (∀ (i : Nat) (Lc : List Nat) (ac : List Ar) (t : Nat), ArcI l f L o i Lc ac → i < ar.length → (el ar i).2.2.2 = (t : Int) → t < n → (∀ u ∈ Lc, u < n) → (∀ j, j < Lc.length → el K (el Lc j) ≠ el K t) → ArcI l f L o (i + 1) (Lc ++ [t]) (ac ++ [((el ar i).1, (el ar i).2.1, (el ar i).2.2.1, (Lc.length : Int))])) := fun i Lc ac t h1 h2 h3 h4 h5 h6 => by
  have h9 := h1.new (by rw [hso]; exact h2) (t := t) (by rw [hso]; exact h3) (by rw [hln]; exact h4) (fun j hj g => h6 j hj ((hKF _ _ (h5 _ (el_mem hj)) h4).2 g))
  rw [hso] at h9
  exact h9
 have HB0 := hidP hb0
 obtain ⟨nA, hnA⟩ : ∃ nA, ar.length = nA := ⟨_, rfl⟩
 rw [hnA] at HCA HTO HLN HOL HNE h400 ⊢
 have hmk := run_arcs nA (by omega)
 have hA1 := (Below.refl w.heap.size w).alloc (Nat.le_refl _) (.cells ((List.replicate nA ((0, 0, 0, 0) : Ar)).flatMap encA).toArray 48)
 have I0 : Hid (LedI l f L o w (w.alloc (.cells ((List.replicate nA ((0, 0, 0, 0) : Ar)).flatMap encA).toArray 48)) base J gn n (.slice (some ⟨gk, 0, none⟩) n n) vf K Ns L [] w.heap.size (List.replicate nA ((0, 0, 0, 0) : Ar)) 0) := ⟨h.later hA1, hI, A0, Blk.made _ _ _, by simp, JoK.of hA1, hA1.mono hbw⟩
 clear hA hca hto hlen hK hB hb0 hKF hso A0 h hI hA1 hnA
 go_enter Tryz.func28, Tryz.ntmps28
 go_wp2
 generalize w.alloc (.cells ((List.replicate nA ((0, 0, 0, 0) : Ar)).flatMap encA).toArray 48) = w1 at *
 obtain ⟨Gl, hGl⟩ : ∃ Gl, Gl = w.heap.size := ⟨_, rfl⟩
 rw [← hGl] at I0 ⊢
 have hGw : w.heap.size ≤ Gl := by omega
 clear hGl
 go_loopw [13] (fun i wr => ∃ (k : Nat) (vf' : Value) (Ns' : List Int) (Lc : List Nat) (ac xs : List Ar), k ≤ nA ∧ i = .int .i64 k ∧ xs.length = nA ∧ Hid (LedI l f L o w wr base J gn n (.slice (some ⟨gk, 0, none⟩) n n) vf' K Ns' Lc ac Gl xs k)) (fun i _ => nA - (intOf i).toNat)
 case atStart => exact ⟨0, vf, Ns, L, [], _, Nat.zero_le _, rfl, by simp, I0⟩
 case round =>
  clear I0
  obtain ⟨k, vf5, Ns5, Lc, ac, xs, hk, rfl, hxl, hE⟩ := hrel
  obtain ⟨w5, hw5⟩ : ∃ w5, w5 = wr := ⟨_, rfl⟩
  subst hw5
  have hb5 := Nat.le_trans hbw hE.out.bel.size
  by_cases hlt : k < nA
  ·have k0 : (0 : Int) ≤ (k : Int) := Int.natCast_nonneg _
   have k1 : (k : Int) < (nA : Int) := by omega
   obtain ⟨b, off, hab, hbl, q0, q1, q2, q3⟩ := HCA.out k hlt
   subst hab
   have W5 := hidP (HB0.out.trans (hE.out.bel.mono hw0))
   have q0 := (W5.out.cell (p := ⟨b, off + k * 4, none⟩) hbl).trans q0
   have q1 := (W5.out.cell (p := ⟨b, off + k * 4 + 1, none⟩) hbl).trans q1
   have q2 := (W5.out.cell (p := ⟨b, off + k * 4 + 2, none⟩) hbl).trans q2
   have q3 := (W5.out.cell (p := ⟨b, off + k * 4 + 3, none⟩) hbl).trans q3
   obtain ⟨t, ht, htn⟩ := HTO.out k hlt
   obtain ⟨hLc, hac⟩ := HLN.out k Lc ac hE.out.ar (by omega)
   have HO := hidP (fun j h1 h2 h3 => HOL.out k Lc ac t j hE.out.ar hlt ht htn (.inr trivial) h1 h2 h3)
   have HN := hidP (fun h1 => HNE.out k Lc ac t hE.out.ar hlt ht htn hE.out.nb.low h1)
   rw [ht] at q3
   obtain ⟨pp, hpp⟩ : ∃ pp, el ar k = pp := ⟨_, rfl⟩
   rw [hpp] at q0 q1 q2 HO HN
   clear hpp ht
   obtain ⟨x0, x1, x2, x3⟩ := pp
   simp only at q0 q1 q2 HO HN
   have hA6 := (Below.refl w5.heap.size w5).alloc (Nat.le_refl _) (.cells #[.int .i64 x0, .int .i64 x1, .int .i64 x2, .int .i64 (t : Int)] 48)
   have E6 := hidP (hE.out.later hA6 hb5)
   have X6 := hidP (Blk.made w5 #[.int .i64 x0, .int .i64 x1, .int .i64 x2, .int .i64 (t : Int)] 48)
   have W6 := hidP (W5.out.trans (hA6.mono W5.out.size))
   have hb6 := Nat.le_trans hb5 hA6.size
   have hAw : w.heap.size ≤ w5.heap.size := hE.out.jk.1
   have hAG : w5.heap.size ≠ Gl := by have := hE.out.bl.lt; omega
   clear hA6 hE W5
   go_upto_region 5 with fail
   clear q0 q1 q2 q3
   generalize w5.alloc (.cells #[.int .i64 x0, .int .i64 x1, .int .i64 x2, .int .i64 (t : Int)] 48) = w6 at *
   obtain ⟨Ab, hAb⟩ : ∃ Ab, Ab = w5.heap.size := ⟨_, rfl⟩
   rw [← hAb] at X6 hAw hAG ⊢
   clear hAb
   have z3 := X6.out.cell 3 (v := .int .i64 (t : Int)) rfl
   have HC := hidP (HNJ.out w6 Lc vf5 Ns5 t E6.out.jn E6.out.nb W6.out htn hLc hb6)
   have hAJ : Ab ≠ J := blkNeL X6.out E6.out.jn.jb (by decide)
   have hGJ : Gl ≠ J := blkNeL E6.out.bl E6.out.jn.jb (by decide)
   go_upto_region 6 with (first
    | (go_at_call 27; (with_reducible refine HC.out.mono ?_); rintro e w7 ⟨jx, vf7, Ns7, Lc7, rfl, hnj, hnb, hjn, hjk, hbb⟩; have NJ := hidP hnj; have NB := hidP hnb; have JN := hidP hjn; have X7 := hidP (hjk.2 _ _ _ X6.out hAJ (by decide)); have L7 := hidP (hjk.2 _ _ _ E6.out.bl hGJ (by decide)); have JK := hidP (E6.out.jk.trans hjk); have BE := hidP (E6.out.bel.trans hbb); have y3 := X7.out.cell 3 (v := .int .i64 (t : Int)) rfl; have f3 := X7.out.fz 3; clear hnj hnb hjn hjk hbb HC))
   have HAR : Hid (ArcI l f L o (k + 1) Lc7 (ac ++ [(x0, x1, x2, (jx : Int))])) := by
    rcases NJ.out with ⟨h1, h2, h3⟩ | ⟨h1, h2, h3⟩
    ·rw [h3]; exact HO.out jx h1 (E6.out.nb.low _ (el_mem h1)) h2
    ·rw [h3, h2]; exact HN.out h1
   have HTK := hidP E6.out.tk
   have X8 := hidP (X7.out.set 3 (.int .i64 (jx : Int)))
   have J8 := hidP (JN.out.setB X7.out (by decide) (by decide) 3 (.int .i64 (jx : Int)))
   have L8 : Hid (Blk (w7.setCell ⟨Ab, 3, none⟩ (.int .i64 (jx : Int))) Gl (xs.flatMap encA).toArray 48) := L7.out.setO _ _ (Ne.symm hAG)
   have K8 := hidP (JK.out.setN (b := Ab) (o := 3) (v := .int .i64 (jx : Int)) hAw)
   have B8 := hidP (BE.out.setCell (p := ⟨Ab, 3, none⟩) (by show base ≤ Ab; omega) (.int .i64 (jx : Int)))
   clear y3 f3 z3 X6 X7 JN L7 JK BE E6 NJ HO HN W6
   generalize w7.setCell ⟨Ab, 3, none⟩ (.int .i64 (jx : Int)) = w8 at *
   have a0 := X8.out.cell 0 (v := .int .i64 x0) rfl
   have a1 := X8.out.cell 1 (v := .int .i64 x1) rfl
   have a2 := X8.out.cell 2 (v := .int .i64 x2) rfl
   have a3 := X8.out.cell 3 (v := .int .i64 (jx : Int)) rfl
   have e0 := L8.out.cell (k * 4) (v := .int .i64 (el xs k).1) (by rw [List.getElem?_toArray]; exact flat_at encA_len xs k (by omega) 0 (by omega))
   have e1 := L8.out.cell (k * 4 + 1) (v := .int .i64 (el xs k).2.1) (by rw [List.getElem?_toArray]; exact flat_at encA_len xs k (by omega) 1 (by omega))
   have e2 := L8.out.cell (k * 4 + 2) (v := .int .i64 (el xs k).2.2.1) (by rw [List.getElem?_toArray]; exact flat_at encA_len xs k (by omega) 2 (by omega))
   have e3 := L8.out.cell (k * 4 + 3) (v := .int .i64 (el xs k).2.2.2) (by rw [List.getElem?_toArray]; exact flat_at encA_len xs k (by omega) 3 (by omega))
   have g0 := L8.out.fz (k * 4)
   have g1 := L8.out.fz (k * 4 + 1)
   have g2 := L8.out.fz (k * 4 + 2)
   have g3 := L8.out.fz (k * 4 + 3)
   have hbG : base ≤ Gl := by omega
   have I9 : Hid (LedI l f L o w ((((w8.setCell ⟨Gl, k * 4, none⟩ (.int .i64 x0)).setCell ⟨Gl, k * 4 + 1, none⟩ (.int .i64 x1)).setCell ⟨Gl, k * 4 + 2, none⟩ (.int .i64 x2)).setCell ⟨Gl, k * 4 + 3, none⟩ (.int .i64 (jx : Int))) base J gn n (.slice (some ⟨gk, 0, none⟩) n n) vf7 K Ns7 Lc7 (ac ++ [(x0, x1, x2, (jx : Int))]) Gl (xs.set k (x0, x1, x2, (jx : Int))) (k + 1)) := by
    have s1 := L8.out.set (k * 4) (.int .i64 x0)
    have s2 := s1.set (k * 4 + 1) (.int .i64 x1)
    have s3 := s2.set (k * 4 + 2) (.int .i64 x2)
    have s4 := s3.set (k * 4 + 3) (.int .i64 (jx : Int))
    refine ⟨(((J8.out.setB L8.out (by decide) (by decide) _ _).setB s1 (by decide) (by decide) _ _).setB s2 (by decide) (by decide) _ _).setB s3 (by decide) (by decide) _ _, NB.out, HAR.out, ?_, by rw [take_set (by omega), HTK.out], (((K8.out.setN hGw).setN hGw).setN hGw).setN hGw, (((B8.out.setCell (p := ⟨Gl, k * 4, none⟩) hbG _).setCell (p := ⟨Gl, k * 4 + 1, none⟩) hbG _).setCell (p := ⟨Gl, k * 4 + 2, none⟩) hbG _).setCell (p := ⟨Gl, k * 4 + 3, none⟩) hbG _⟩
    rw [set_arc (by omega) (x0, x1, x2, (jx : Int))] at s4
    exact s4
   have hxl2 : (xs.set k (x0, x1, x2, (jx : Int))).length = nA := by rw [List.length_set]; exact hxl
   have HXL := hidP hxl2
   clear X8 J8 L8 K8 B8 HAR HTK NB hxl2
   obtain ⟨y0, hy0⟩ : ∃ y, (el xs k) = y := ⟨_, rfl⟩
   rw [hy0] at e0 e1 e2 e3
   clear hy0
   go_wp2
   go_roundw
   case rel => exact ⟨k + 1, vf7, Ns7, Lc7, _, _, by omega, by go_num, HXL.out, I9⟩
   case measure => simp [intOf]; omega
  ·have k1 : ¬ (k : Int) < (nA : Int) := by omega
   obtain rfl : k = nA := by omega
   have HOW := hidP (arcs_block (B := base) hE.out.bl (by omega) (by omega))
   have hta : xs = ac := by rw [← hE.out.tk, List.take_of_length_le (by omega)]
   rw [hxl, hta] at HOW
   have hacl : ac.length = k := by rw [← hta]; exact hxl
   have HO2 : Hid (OwnArcs w5 base (.slice (some ⟨Gl, 0, none⟩) k k) ac) := by (show OwnArcs _ _ _ _); unfold OwnArcs; rw [hacl]; exact HOW.out
   have E := hE.out
   clear hta hacl hxl
   go_wp2
   go_ret
   first | exact ⟨Gl, vf5, Ns5, Lc, ac, rfl, hE.out.ar, hE.out.nb, hE.out.jn, HO2.out, hE.out.jk, hE.out.bel⟩ | exact ⟨Gl, rfl, vf5, Ns5, Lc, ac, hE.out.ar, hE.out.nb, hE.out.jn, HO2.out, hE.out.jk, hE.out.bel⟩
end Go.Proofs.YthajkkobgfighaaGreatDoor.Wt
