/- Rows of numbers of the call's own. -/
import Derived.Test.YthajkkobgfighaaGreatDoorJad
import Derived.Test.YthajkkobgfighaaGreatDoorJan
import Derived.Test.YthajkkobgfighaaGreatDoorJag
import Derived.Shelf.Abstract
import Derived.Deep.DeepCutAuto
import Derived.Test.YthajkkobgfighaaGreatDoorJaa
import Derived.Test.YthajkkobgfighaaGreatDoorJab
namespace Go.Proofs.YthajkkobgfighaaGreatDoor.Wt
open Go.ChangeShapes Go.WideShapes Go.ChangeAt Go.RowKit
open Go.Proofs.YthajkkobgfighaaGreatDoor.Pl
set_option linter.unusedVariables false
theorem own_cut {w : World} {base : Nat} {e : TypeId} {a : Option Addr} {n cap k : Nat} {ws : List Int} (h : w.ownsRow base e 1 (.slice a n cap) n (ws.flatMap encI1)) (hk : k < n) :
  ∃ g, a = some ⟨g, 0, none⟩ ∧ n ≤ cap ∧ w.ownsRow base e 1 (.slice (some ⟨g, 0, none⟩) k cap) k ((ws.take k).flatMap encI1) := by
 have hlen := h.1
 rw [flat_length encI1_len] at hlen
 rcases h.2 with ⟨hv, hn0⟩ | ⟨g, cap', cur, hv, hbg, hg, hnc, hcm, hcs, htake⟩
 ·omega
 ·simp only [Value.slice.injEq, true_and] at hv
  obtain ⟨rfl, rfl⟩ := hv
  refine ⟨g, rfl, hnc, ?_, .inr ⟨g, cap, cur, rfl, hbg, hg, by omega, hcm, hcs, ?_⟩⟩
  ·rw [flat_length encI1_len, List.length_take]; omega
  ·have h1 : cur.toList.take (k * 1) = (cur.toList.take (n * 1)).take (k * 1) := by rw [List.take_take]; congr 1; omega
   rw [h1, htake]
   have h2 : ∀ l : List Int, l.flatMap encI1 = l.map (Value.int .i64) := fun l => by
    induction l with
    | nil => rfl
    | cons x l ih => rw [List.flatMap_cons, ih]; rfl
   rw [h2, h2, List.map_take, Nat.mul_one]
theorem own_num {w : World} {base : Nat} {e : TypeId} {g n cap j : Nat} {ws : List Int} (h : w.ownsRow base e 1 (.slice (some ⟨g, 0, none⟩) n cap) n (ws.flatMap encI1)) (hj : j < ws.length) : w.cell? ⟨g, j, none⟩ = some (.int .i64 (el ws j)) := by
 have hc := h.cells (g := g) rfl j (.int .i64 (el ws j)) (by
  have := flat_at encI1_len ws j hj 0 (by omega)
  rw [Nat.mul_one, Nat.add_zero] at this
  rw [this]; rfl)
 rw [Addr.add_lit, Nat.zero_add] at hc
 exact hc
def falses (w : World) (b : Nat) : Nat := match w.heap[b]? with
 | some (.cells cs _ _) => cs.toList.countP fun v => match v with | .bool false => true | _ => false
 | _ => 0
theorem falses_blk {w : World} {b : Nat} {bs : List Bool} {t : TypeId} (h : Blk w b (bs.map Value.bool).toArray t) : falses w b = bs.count false := by
 unfold Blk at h
 unfold falses
 rw [h]
 simp only
 rw [List.countP_map]
 unfold List.count
 refine List.countP_congr fun x _ => ?_
 cases x <;> simp
def lenV : Value → Nat
 | .slice _ n _ => n
 | _ => 0
end Go.Proofs.YthajkkobgfighaaGreatDoor.Wt
namespace Go.Proofs.YthajkkobgfighaaGreatDoor.Pl
def SpreadC (n : Nat) (F : List Int) (L : Nat → List Int) (T : Nat → Prop) : Prop := (∀ x ∈ F, T x.toNat) ∧ ∀ q, q < n → T q → ∀ y ∈ L q, T y.toNat
structure Dfs (n M K : Nat) (F : List Int) (L : Nat → List Int) (bs : List Bool) (ws : List Int) : Prop where
 len : bs.length = n
 inn : ∀ x ∈ ws, 0 ≤ x ∧ x < n
 sound : ∀ T, SpreadC n F L T → (∀ q, q < n → el bs q = true → T q) ∧ ∀ x ∈ ws, T x.toNat
 first : ∀ x ∈ F, el bs x.toNat = true ∨ x ∈ ws
 next : ∀ q, q < n → el bs q = true → ∀ y ∈ L q, el bs y.toNat = true ∨ y ∈ ws
 room : bs.count false * (M + 1) + ws.length ≤ K
section
variable {n M K : Nat} {F : List Int} {L : Nat → List Int} {bs : List Bool} {ws : List Int}
theorem Dfs.start (hF : ∀ x ∈ F, 0 ≤ x ∧ x < (n : Int)) (hK : n * (M + 1) + F.length ≤ K) : Dfs n M K F L (List.replicate n false) F :=
 ⟨by simp, hF, fun T hT => ⟨fun q _ e => absurd e (by rw [el_false]; simp), hT.1⟩, fun x hx => .inr hx, fun q _ e => absurd e (by rw [el_false]; simp), by rw [List.count_replicate]; simpa using hK⟩
theorem mem_last {k : Nat} {x : Int} (hk : ws.length = k + 1) : x ∈ ws ↔ x ∈ ws.take k ∨ x = el ws k := by
 have h := take_el (l := ws) (k := k) (by omega)
 rw [← hk, List.take_length] at h
 conv => lhs; rw [h]
 simp
theorem Dfs.skip (h : Dfs n M K F L bs ws) {k : Nat} (hk : ws.length = k + 1) (hf : el bs (el ws k).toNat = true) : Dfs n M K F L bs (ws.take k) := by
 refine ⟨h.len, fun x hx => h.inn x ((mem_last hk).2 (.inl hx)), fun T hT => ⟨(h.sound T hT).1, fun x hx => (h.sound T hT).2 x ((mem_last hk).2 (.inl hx))⟩, fun x hx => ?_, fun q hq e y hy => ?_, ?_⟩
 ·rcases h.first x hx with h1 | h1
  ·exact .inl h1
  ·rcases (mem_last hk).1 h1 with h2 | h2
   ·exact .inr h2
   ·exact .inl (by rw [h2]; exact hf)
 ·rcases h.next q hq e y hy with h1 | h1
  ·exact .inl h1
  ·rcases (mem_last hk).1 h1 with h2 | h2
   ·exact .inr h2
   ·exact .inl (by rw [h2]; exact hf)
 ·have := h.room
  rw [List.length_take]
  omega
theorem count_set {q : Nat} (hq : q < bs.length) (hf : el bs q = false) : (bs.set q true).count false + 1 = bs.count false := by
  induction bs generalizing q with
  | nil => simp at hq
  | cons b l ih =>
    cases q with
    | zero =>
      rw [el_zero] at hf
      subst hf
      simp
    | succ q =>
      rw [el_succ] at hf
      have := ih (q := q) (by simpa using hq) hf
      rw [List.set_cons_succ, List.count_cons, List.count_cons]
      omega
theorem Dfs.step (h : Dfs n M K F L bs ws) {k q : Nat} (hk : ws.length = k + 1) (hx : el ws k = (q : Int)) (hf : el bs q = false) (hL : ∀ y ∈ L q, 0 ≤ y ∧ y < (n : Int)) (hM : (L q).length ≤ M) : Dfs n M K F L (bs.set q true) (ws.take k ++ L q) := by
 have hin := h.inn (el ws k) (el_mem (by omega))
 have hq : q < n := by omega
 have hqb : q < bs.length := by rw [h.len]; exact hq
 refine ⟨by simpa using h.len, fun x hx' => ?_, fun T hT => ?_, fun x hx' => ?_, fun p hp e y hy => ?_, ?_⟩
 ·rcases List.mem_append.1 hx' with h1 | h1
  ·exact h.inn x ((mem_last hk).2 (.inl h1))
  ·exact hL x h1
 ·have hTq : T q := by
   have := (h.sound T hT).2 (el ws k) (el_mem (by omega))
   rw [hx] at this
   simpa using this
  refine ⟨fun p hp e => ?_, fun x hx' => ?_⟩
  ·rw [el_setB hqb] at e
   split at e
   ·rename_i e9; subst e9; exact hTq
   ·exact (h.sound T hT).1 p hp e
  ·rcases List.mem_append.1 hx' with h1 | h1
   ·exact (h.sound T hT).2 x ((mem_last hk).2 (.inl h1))
   ·exact hT.2 q hq hTq x h1
 ·rw [el_setB hqb]
  split
  ·exact .inl rfl
  ·rename_i e9
   rcases h.first x hx' with h1 | h1
   ·exact .inl h1
   ·rcases (mem_last hk).1 h1 with h2 | h2
    ·exact .inr (List.mem_append.2 (.inl h2))
    ·exact absurd (by rw [h2, hx]; simp) e9
 ·rw [el_setB hqb] at e ⊢
  split
  ·exact .inl rfl
  ·rename_i e9
   split at e
   ·rename_i e8; subst e8; exact .inr (List.mem_append.2 (.inr hy))
   ·rcases h.next p hp e y hy with h1 | h1
    ·exact .inl h1
    ·rcases (mem_last hk).1 h1 with h2 | h2
     ·exact .inr (List.mem_append.2 (.inl h2))
     ·exact absurd (by rw [h2, hx]; simp) e9
 ·have h1 := h.room
  have h2 := count_set hqb hf
  rw [← h2] at h1
  rw [List.length_append, List.length_take]
  rw [Nat.add_mul] at h1
  omega
theorem Dfs.done (h : Dfs n M K F L bs []) : Least (SpreadC n F L) n bs := by
 refine ⟨h.len, ⟨fun x hx => ?_, fun q hq e y hy => ?_⟩, fun T hT => (h.sound T hT).1⟩
 ·rcases h.first x hx with h1 | h1
  ·exact h1
  ·simp at h1
 ·rcases h.next q hq e y hy with h1 | h1
  ·exact h1
  ·simp at h1
theorem Least.iff {C D : (Nat → Prop) → Prop} {bs : List Bool} (h : Least C n bs) (hCD : ∀ T, C T ↔ D T) : Least D n bs := ⟨h.1, (hCD _).1 h.2.1, fun T hT => h.2.2 T ((hCD T).2 hT)⟩
end
def toL (l : List St) (q : Nat) : List Int := (el l q).2.map fun a => a.2.2.2
def startL (z : Int) : List Int := if z < 0 then [] else [z]
theorem ahead_spread {z : Int} {l : List St} (hz : z < l.length) (T : Nat → Prop) : SpreadC l.length (startL z) (toL l) T ↔ AheadC z l T := by
 unfold SpreadC AheadC startL toL
 constructor
 ·rintro ⟨h1, h2⟩
  refine ⟨fun q hq e => ?_, fun q hq e a ha => h2 q hq e _ (List.mem_map.2 ⟨a, ha, rfl⟩)⟩
  have := h1 z (by rw [if_neg (by omega)]; simp)
  rw [← e] at this
  simpa using this
 ·rintro ⟨h1, h2⟩
  refine ⟨fun x hx => ?_, fun q hq e y hy => ?_⟩
  ·split at hx
   ·simp at hx
   ·simp at hx
    subst hx
    exact h1 _ (by omega) (by omega)
  ·obtain ⟨a, ha, rfl⟩ := List.mem_map.1 hy
   exact h2 q hq e a ha
def endL (l : List St) (n : Nat) : List Int := ((List.range n).filter fun q => decide ((el l q).1 ≠ 1000000001)).map fun q : Nat => (q : Int)
theorem endL_succ (l : List St) (n : Nat) : endL l (n + 1) = endL l n ++ (if (el l n).1 ≠ 1000000001 then [(n : Int)] else []) := by
 unfold endL
 rw [List.range_succ, List.filter_append, List.map_append]
 by_cases h : (el l n).1 = 1000000001 <;> simp [h]
theorem endL_le (l : List St) (n : Nat) : (endL l n).length ≤ n := by
 unfold endL
 rw [List.length_map]
 exact Nat.le_trans (List.length_filter_le _ _) (by simp)
theorem endL_mem {l : List St} {n : Nat} {x : Int} : x ∈ endL l n ↔ ∃ q : Nat, x = (q : Int) ∧ q < n ∧ (el l q).1 ≠ 1000000001 := by
 unfold endL
 simp only [List.mem_map, List.mem_filter, List.mem_range, decide_eq_true_eq]
 constructor
 ·rintro ⟨q, ⟨h1, h2⟩, rfl⟩; exact ⟨q, rfl, h1, h2⟩
 ·rintro ⟨q, rfl, h1, h2⟩; exact ⟨q, ⟨h1, h2⟩, rfl⟩
def putT (t q : Nat) (f : Nat → List Int) : Nat → List Int := fun p => if p = t then f p ++ [(q : Int)] else f p
def fillA (q : Nat) (ar : List Ar) (f : Nat → List Int) : Nat → List Int := ar.foldl (fun f a => putT a.2.2.2.toNat q f) f
def fillS (l : List St) (n : Nat) : Nat → List Int := (List.range n).foldl (fun f q => fillA q (el l q).2 f) (fun _ => [])
theorem fillS_succ (l : List St) (n : Nat) : fillS l (n + 1) = fillA n (el l n).2 (fillS l n) := by
 unfold fillS
 rw [List.range_succ, List.foldl_append]
 rfl
theorem fillA_take (q : Nat) {ar : List Ar} {k : Nat} (h : k < ar.length) (f : Nat → List Int) : fillA q (ar.take (k + 1)) f = putT (el ar k).2.2.2.toNat q (fillA q (ar.take k) f) := by
 unfold fillA
 rw [take_el h, List.foldl_append]
 rfl
theorem fillA_mem {q : Nat} {ar : List Ar} {f : Nat → List Int} {p : Nat} {x : Int} : x ∈ fillA q ar f p ↔ x ∈ f p ∨ (x = (q : Int) ∧ ∃ a ∈ ar, a.2.2.2.toNat = p) := by
  induction ar generalizing f with
  | nil => simp [fillA]
  | cons a ar ih =>
    have : fillA q (a :: ar) f = fillA q ar (putT a.2.2.2.toNat q f) := rfl
    rw [this, ih]
    unfold putT
    by_cases e : p = a.2.2.2.toNat
    · rw [if_pos e]
      simp only [List.mem_append, List.mem_cons, List.not_mem_nil, or_false]
      constructor
      · rintro ((h | h) | ⟨h1, b, hb, h2⟩)
        · exact .inl h
        · exact .inr ⟨h, a, .inl rfl, e.symm⟩
        · exact .inr ⟨h1, b, .inr hb, h2⟩
      · rintro (h | ⟨h1, b, hb | hb, h2⟩)
        · exact .inl (.inl h)
        · exact .inl (.inr h1)
        · exact .inr ⟨h1, b, hb, h2⟩
    · rw [if_neg e]
      simp only [List.mem_cons]
      constructor
      · rintro (h | ⟨h1, b, hb, h2⟩)
        · exact .inl h
        · exact .inr ⟨h1, b, .inr hb, h2⟩
      · rintro (h | ⟨h1, b, hb | hb, h2⟩)
        · exact .inl h
        · subst hb; exact absurd h2.symm e
        · exact .inr ⟨h1, b, hb, h2⟩
theorem fillS_mem {l : List St} {n p : Nat} {x : Int} : x ∈ fillS l n p ↔ ∃ q : Nat, x = (q : Int) ∧ q < n ∧ ∃ a ∈ (el l q).2, a.2.2.2.toNat = p := by
  induction n with
  | zero => simp [fillS]
  | succ n ih =>
    rw [fillS_succ, fillA_mem, ih]
    constructor
    · rintro (⟨q, h1, h2, h3⟩ | ⟨h1, h2⟩)
      · exact ⟨q, h1, by omega, h3⟩
      · exact ⟨n, h1, by omega, h2⟩
    · rintro ⟨q, h1, h2, h3⟩
      by_cases e : q = n
      · subst e; exact .inr ⟨h1, h3⟩
      · exact .inl ⟨q, h1, by omega, h3⟩
theorem fillA_len (q : Nat) (ar : List Ar) (f : Nat → List Int) (p : Nat) : (fillA q ar f p).length ≤ (f p).length + ar.length := by
  induction ar generalizing f with
  | nil => simp [fillA]
  | cons a ar ih =>
    have : fillA q (a :: ar) f = fillA q ar (putT a.2.2.2.toNat q f) := rfl
    rw [this]
    have := ih (f := putT a.2.2.2.toNat q f)
    unfold putT at this ⊢
    simp only [List.length_cons]
    split at this <;> simp at this ⊢ <;> omega
theorem fillS_len (l : List St) (n p : Nat) (hn : n ≤ l.length) : (fillS l n p).length ≤ arcN (l.take n) := by
  induction n with
  | zero => simp [fillS]
  | succ n ih =>
    rw [fillS_succ, arcN_take (by omega)]
    have := fillA_len n (el l n).2 (fillS l n) p
    have := ih (by omega)
    omega
theorem back_spread {l : List St} (ht : ∀ q, q < l.length → ∀ a ∈ (el l q).2, ∃ t : Nat, a.2.2.2 = (t : Int) ∧ t < l.length) (T : Nat → Prop) : SpreadC l.length (endL l l.length) (fillS l l.length) T ↔ BackC l T := by
 unfold SpreadC BackC
 constructor
 ·rintro ⟨h1, h2⟩
  refine ⟨fun q hq e => ?_, fun q hq a ha e => ?_⟩
  ·simpa using h1 (q : Int) (endL_mem.2 ⟨q, rfl, hq, e⟩)
  ·obtain ⟨t, h3, h4⟩ := ht q hq a ha
   rw [h3] at e
   simp only [Int.toNat_natCast] at e
   simpa using h2 t h4 e (q : Int) (fillS_mem.2 ⟨q, rfl, hq, a, ha, by rw [h3]; simp⟩)
 ·rintro ⟨h1, h2⟩
  refine ⟨fun x hx => ?_, fun p hp e y hy => ?_⟩
  ·obtain ⟨q, rfl, hq, e⟩ := endL_mem.1 hx
   simpa using h1 q hq e
  ·obtain ⟨q, rfl, hq, a, ha, h3⟩ := fillS_mem.1 hy
   simpa using h2 q hq a ha (by rw [h3]; exact e)
end Go.Proofs.YthajkkobgfighaaGreatDoor.Pl
namespace Go.Proofs.YthajkkobgfighaaGreatDoor.Wt
open Go.ChangeShapes Go.WideShapes Go.ChangeAt Go.RowKit
open Go.Proofs.YthajkkobgfighaaGreatDoor.Pl
set_option linter.unusedVariables false
set_option linter.unusedSimpArgs false
theorem infoIntS : (Tryz.prog.info? 3).map (fun i => (i.zero, i.size, i.bytes)) = some (some (.int .i64 0), 1, 8) := by kernel_rfl
theorem run_boolsS (n : Nat) (hn : n ≤ 1000) (W : World) : (Instr.makeSlice 49 (.int .i64 (n : Int)) (.int .i64 (n : Int))).run Tryz.prog W = .ok (.slice (some ⟨W.heap.size, 0, none⟩) n n) (W.alloc (.cells ((List.replicate n false).map Value.bool).toArray 4)) := by
 obtain ⟨i1, hi1, hy0, hy1, hy2⟩ := info_parts infoBool
 have h := run_make (P := Tryz.prog) W 49 4 i1 _ Tryz.underlying49 hi1 hy0 .i64 .i64 n n (by omega) (by omega) (by rw [hy2]; omega) (by omega)
 rw [hy1, Int.toNat_natCast, made_bools] at h
 exact h
def AskL (g : Nat) (lb : Array Value) (L : Nat → List Int) (n : Nat) (w : World) (r : Option Nat) : Prop :=
 (∀ ar W, (callFunc g ar).run Tryz.prog W = .ok (.enter g ar) W) ∧
 ∀ q, q < n → ∀ W : World, w.grownBy W r → Calls Tryz.prog g (#[.int .i64 (q : Int)] ++ lb) W fun e w' => ∃ v', e = .returned v' ∧ Nums w' v' (L q) ∧ Below W.heap.size W w'
set_option maxRecDepth 100000 in
set_option maxHeartbeats 3200000 in
theorem spread_any (n : Nat) (v : Value) (F : List Int) (g : Nat) (lb : Array Value) (L : Nat → List Int) (base : Nat) (w : World) (hF : w.ownsRow base 3 1 v F.length (F.flatMap encI1)) (hbase : base ≤ w.heap.size) (h60 : n ≤ 60) (hFn : ∀ x ∈ F, 0 ≤ x ∧ x < (n : Int)) (hFl : F.length ≤ 60) (hg : AskL g lb L n w v.ownBlock) (hLn : ∀ q, q < n → ∀ y ∈ L q, 0 ≤ y ∧ y < (n : Int)) (hLl : ∀ q, q < n → (L q).length ≤ 400) :
  Calls Tryz.prog 75 #[.int .i64 (n : Int), v, .func (.func g) #[] lb] w fun e w' => ∃ v', e = .returned v' ∧ (∃ bs, Bools w' v' bs ∧ Least (SpreadC n F L) n bs) ∧ w.grownBy w' v.ownBlock := by
 obtain ⟨i1, hi1, hy0, hy1, hy2⟩ := info_parts infoIntS
 obtain ⟨eg, hg⟩ := hg
 have HG : Hid (∀ q, q < n → ∀ W : World, w.grownBy W v.ownBlock → Calls Tryz.prog g (#[.int .i64 (q : Int)] ++ lb) W fun e w' => ∃ v', e = .returned v' ∧ Nums w' v' (L q) ∧ Below W.heap.size W w') := hg
 have HLN : Hid (∀ q, q < n → ∀ y ∈ L q, 0 ≤ y ∧ y < (n : Int)) := hLn
 have HLL : Hid (∀ q, q < n → (L q).length ≤ 400) := hLl
 have HF : Hid (w.ownsRow base 3 1 v F.length (F.flatMap encI1)) := hF
 have HD0 : Hid (Dfs n 400 30000 F L (List.replicate n false) F) := Dfs.start hFn (by omega)
 have hmk := run_boolsS n (by omega)
 have hnot : ∀ (x : Bool) (w : World), (Op.unary .not (.bool x)).run Tryz.prog w = .ok (.bool (!x)) w := fun _ _ => rfl
 clear hF hg hLn hLl hFn
 generalize hr : v.ownBlock = r at *
 have HNR : Hid (Near w r v) := .inl hr
 clear hr
 go_enter Tryz.func75, Tryz.ntmps75
 go_wp2
 go_loopw [8] (fun s8 wr => ∃ (bs : List Bool) (ws : List Int) (vo : Value), vo = s8 ∧ Hid (Dfs n 400 30000 F L bs ws) ∧ Hid (wr.ownsRow base 3 1 vo ws.length (ws.flatMap encI1)) ∧ Hid (Near w r vo) ∧ Hid (Blk wr w.heap.size (bs.map Value.bool).toArray 4) ∧ Hid (w.grownBy wr r)) (fun s8 wr => falses wr w.heap.size * 401 + lenV s8)
 case atStart => exact ⟨_, F, v, rfl, HD0, HF.out.alloc _, HNR, by (show Blk _ _ _ _); rw [show (List.map Value.bool (List.replicate n false)).toArray = Array.replicate n (Value.bool false) from by simp]; exact Blk.made _ _ _, gNew ((Below.refl _ _).alloc (Nat.le_refl _) _)⟩
 case round =>
  obtain ⟨bs, ws, vo, rfl, hd, hown, hnear, hblk, hgr⟩ := hrel
  obtain ⟨a, cap, hvo⟩ := own_sl hown.out
  subst hvo
  by_cases hz : ws.length = 0
  ·have hwz : ws = [] := List.eq_nil_of_length_eq_zero hz
   have HLS : Hid (Least (SpreadC n F L) n bs) := by have h9 := hd.out; rw [hwz] at h9; exact h9.done
   have HBL : Hid (Bools wr (.slice (some ⟨w.heap.size, 0, none⟩) n n) bs) := by have h9 := bools_block (cap := n) hblk.out; rw [hd.out.len] at h9; exact h9
   have hz' : ((ws.length : Nat) : Int) = 0 := by omega
   clear hwz
   go_wp2
   go_ret
   exact ⟨_, rfl, ⟨bs, HBL.out, HLS.out⟩, hgr.out⟩
  ·obtain ⟨k, hk⟩ : ∃ k, ws.length = k + 1 := ⟨ws.length - 1, by omega⟩
   obtain ⟨gb, hga, hnc, hcut⟩ := own_cut (k := k) hown.out (by omega)
   subst hga
   have hin := hd.out.inn (el ws k) (el_mem (by omega))
   have c0 := own_num hown.out (j := k) (by omega)
   obtain ⟨q, hq⟩ : ∃ q : Nat, el ws k = (q : Int) := ⟨(el ws k).toNat, by omega⟩
   rw [hq] at hin c0
   have hqn : q < n := by omega
   have hroom := hd.out.room
   rw [hk] at hroom
   have HCUT : Hid (wr.ownsRow base 3 1 (.slice (some ⟨gb, 0, none⟩) k cap) k ((ws.take k).flatMap encI1)) := hcut
   have HNC : Hid (Near w r (.slice (some ⟨gb, 0, none⟩) k cap)) := hnear.out
   have HFL : Hid (falses wr w.heap.size = bs.count false) := falses_blk hblk.out
   have HTK : Hid ((ws.take k).length = k) := by show _ = _; rw [List.length_take]; omega
   have y0 := bool_cell hblk.out (j := q) (by rw [hd.out.len]; exact hqn)
   have y1 := hblk.out.fz q
   have k1 : (0 : Int) < (k : Int) + 1 := by omega
   have k2 : (0 : Int) ≤ (k : Int) := by omega
   have k3 : (k : Int) < (k : Int) + 1 := by omega
   have k4 : (k : Int) ≤ (cap : Int) := by omega
   have k5 : IntKind.i64.wrap (k : Int) = (k : Int) := wrapI (by omega) (by omega)
   have q0 : (0 : Int) ≤ (q : Int) := by omega
   have q1 : (q : Int) < (n : Int) := by omega
   rcases bool_cases' (el bs q) with hf | hf
   ·have HD2 : Hid (Dfs n 400 30000 F L bs (ws.take k)) := hd.out.skip hk (by rw [hq]; exact hf)
    rw [hf] at y0
    rw [hk]
    clear hf hown hnear hcut hd hroom hz
    go_wp2
    go_roundw
    case rel => exact ⟨bs, ws.take k, _, rfl, HD2, by rw [HTK.out]; exact HCUT, HNC, hblk, hgr⟩
    case measure => simp [lenV]
   ·have HD2 : Hid (Dfs n 400 30000 F L (bs.set q true) (ws.take k ++ L q)) := hd.out.step hk hq hf (HLN.out q hqn) (HLL.out q hqn)
    have HCS : Hid ((bs.set q true).count false + 1 = bs.count false) := count_set (by rw [hd.out.len]; exact hqn) hf
    rw [hf] at y0
    rw [hk]
    have hgne : some w.heap.size ≠ Value.ownBlock (.slice (some ⟨gb, 0, none⟩) k cap) := own_ne hcut hblk.out (by decide)
    have HB2 : Hid (Blk (wr.setCell ⟨w.heap.size, q, none⟩ (.bool true)) w.heap.size ((bs.set q true).map Value.bool).toArray 4) := by have h9 := hblk.out.set q (.bool true); rw [set_bool] at h9; exact h9
    have HG2 : Hid (w.grownBy (wr.setCell ⟨w.heap.size, q, none⟩ (.bool true)) r) := gSetNew hgr.out (Nat.le_refl _) q _
    have HO2 : Hid ((wr.setCell ⟨w.heap.size, q, none⟩ (.bool true)).ownsRow base 3 1 (.slice (some ⟨gb, 0, none⟩) k cap) k ((ws.take k).flatMap encI1)) := hcut.kept (gSet wr w.heap.size q _) (.inr (Ne.symm hgne))
    have hL4 := HLL.out q hqn
    have HC1 : Hid (Calls Tryz.prog g (#[.int .i64 (q : Int)] ++ lb) (wr.setCell ⟨w.heap.size, q, none⟩ (.bool true)) fun e w' => ∃ v', e = .returned v' ∧ Nums w' v' (L q) ∧ Below (wr.setCell ⟨w.heap.size, q, none⟩ (.bool true)).heap.size (wr.setCell ⟨w.heap.size, q, none⟩ (.bool true)) w') := HG.out q hqn _ HG2.out
    clear hf hown hnear hcut hd hblk hgr hz
    go_wp2_with (first
     | (go_at_fn g; refine HC1.out.mono ?_; rintro e w' ⟨v', rfl, hnum, hb'⟩; have HNUM : Hid (Nums w' v' (L q)) := hnum; have HB3 : Hid (Below _ _ w') := hb'; clear hnum hb'; have HO3 : Hid (w'.ownsRow base 3 1 (.slice (some ⟨gb, 0, none⟩) k cap) k ((ws.take k).flatMap encI1)) := ownBelow HO2.out HB3.out; have HG3 : Hid (w.grownBy w' r) := gTrans HG2.out (gNew HB3.out); have HBK3 : Hid (Blk w' w.heap.size ((bs.set q true).map Value.bool).toArray 4) := HB2.out.below HB3.out HB2.out.lt)
     | (at_builtin; refine wpList_append_spot encI1_len (by decide) encI1_one rfl _ _ 38 rfl base 3 i1 _ 8 Tryz.underlying38 hi1 hy0 hy1 hy2 rfl _ k ((ws.take k).flatMap encI1) rfl HO3.out _ (L q) rfl HNUM.out (by unfold maxLen; omega) (by omega) (Nat.le_trans hbase HG3.out.size) ?_; intro v4 w4 ho4 hg4 hn4; have HO4 : Hid (w4.ownsRow base 3 1 v4 (ws.take k ++ L q).length ((ws.take k ++ L q).flatMap encI1)) := (by show World.ownsRow _ _ _ _ _ _ _; rw [List.length_append, HTK.out, List.flatMap_append]; exact ho4); have HN4 : Hid (Near w r v4) := HNC.out.next HG3.out hn4; have HG4 : Hid (w.grownBy w4 r) := HNC.out.grown HG3.out hg4; have HB4 : Hid (Blk w4 w.heap.size ((bs.set q true).map Value.bool).toArray 4) := HBK3.out.grown hg4 hgne; have hlv : lenV v4 = k + (L q).length := (by obtain ⟨a9, c9, h9⟩ := own_sl ho4; rw [h9]; rfl); clear ho4 hg4 hn4))
    go_roundw
    case rel => exact ⟨bs.set q true, ws.take k ++ L q, _, rfl, HD2, HO4, HN4, HB4, HG4⟩
    case measure =>
     have h1 := falses_blk HB4.out
     have h2 := HCS.out
     have h3 := HFL.out
     rw [h1, h3, ← h2]
     simp [hlv]
     simp only [lenV]
     omega
end Go.Proofs.YthajkkobgfighaaGreatDoor.Wt
namespace Go.Proofs.YthajkkobgfighaaGreatDoor.Wt
open Go.ChangeShapes Go.WideShapes Go.ChangeAt Go.RowKit
open Go.Proofs.YthajkkobgfighaaGreatDoor.Pl
set_option linter.unusedVariables false
theorem arcsOf_any (v : Value) (m : Mc) (w : World) (h : Mach w v m) (hok : okM m) (h60 : m.2.length ≤ 60) (q : Nat) (hq : arcN m.2 = q) :
  Calls Tryz.prog 70 #[v] w fun e w' => e = .returned (.int .i64 q) ∧ Below w.heap.size w w' := by
 subst hq
 obtain ⟨z, l⟩ := m
 obtain ⟨vs, rfl, hS⟩ := h
 obtain ⟨a, cap, rfl, hc⟩ := hS.get
 have hA := okM_arcs hok h60
 clear hS hok
 have HX : Hid (∀ k, arcN (l.take k) ≤ 60 * 4398046511104) := hA
 have HC : Hid (∀ j, j < l.length → ∃ b off va, a = some ⟨b, off, none⟩ ∧ b < w.heap.size ∧ w.cell? ⟨b, off + j * 2, none⟩ = some (.int .i64 (el l j).1) ∧ w.cell? ⟨b, off + j * 2 + 1, none⟩ = some va ∧ Arcs w va (el l j).2) := hc
 clear hA hc
 simp only at h60 ⊢
 generalize hn : l.length = n at *
 go_enter Tryz.func70, Tryz.ntmps70
 go_wp2
 go_loopw [3, 9] (fun s i wr => ∃ k : Nat, k ≤ n ∧ i = .int .i64 k ∧ s = .int .i64 (arcN (l.take k)) ∧ Below w.heap.size w wr) (fun _ i _ => n - (intOf i).toNat)
 case atStart => exact ⟨0, Nat.zero_le _, rfl, rfl, by go_grown⟩
 case round =>
  obtain ⟨k, hk, rfl, rfl, hb⟩ := hrel
  by_cases hlt : k < n
  ·obtain ⟨b, off, va, rfl, hbl, g0, g1, gA⟩ := HC.out k hlt
   obtain ⟨a2, cap2, rfl⟩ := gA.sl
   have g0 := (hb.cell (p := ⟨b, off + k * 2, none⟩) hbl).trans g0
   have g1 := (hb.cell (p := ⟨b, off + k * 2 + 1, none⟩) hbl).trans g1
   have h1 := HX.out k
   have h2 := HX.out (k + 1)
   have HE : Hid (arcN (l.take (k + 1)) = arcN (l.take k) + (el l k).2.length) := arcN_take (by omega)
   rw [HE.out] at h2
   clear gA
   generalize arcN (l.take k) = s at *
   generalize (el l k).2.length = q at *
   generalize (el l k).1 = f at *
   go_wp2
   go_roundw
   case rel => exact ⟨k + 1, by omega, by go_num, by rw [HE.out]; go_num, hb.alloc hb.size _⟩
   case measure => simp [intOf]; omega
  ·go_wp2
   go_ret
   have hke : k = n := by omega
   refine ⟨ret_intK ?_, hb⟩
   rw [hke, ← hn, List.take_length]
def AskS (g : Nat) (lb : Array Value) (p : St → Bool) (l : List St) (w : World) : Prop :=
 (∀ ar W, (callFunc g ar).run Tryz.prog W = .ok (.enter g ar) W) ∧
 ∀ j, j < l.length → ∀ (W : World) (va : Value), Below w.heap.size w W → Arcs W va (el l j).2 → Calls Tryz.prog g (#[.agg #[.int .i64 (el l j).1, va]] ++ lb) W fun e w' => e = .returned (.bool (p (el l j))) ∧ Below W.heap.size W w'
set_option maxRecDepth 100000 in
theorem everyState_any (v : Value) (m : Mc) (w : World) (h : Mach w v m) (g : Nat) (lb : Array Value) (p : St → Bool) (hg : AskS g lb p m.2 w) (hl : m.2.length ≤ 60) (r : Bool) (hr : m.2.all p = r) :
  Calls Tryz.prog 44 #[v, .func (.func g) #[] lb] w fun e w' => e = .returned (.bool r) ∧ Below w.heap.size w w' := by
 obtain ⟨z, l⟩ := m
 obtain ⟨vs, rfl, hS⟩ := h
 obtain ⟨a, cap, rfl, hc⟩ := hS.get
 obtain ⟨eg, hg⟩ := hg
 simp only at hg hl hr ⊢
 have HC : Hid (∀ j, j < l.length → ∃ b off va, a = some ⟨b, off, none⟩ ∧ b < w.heap.size ∧ w.cell? ⟨b, off + j * 2, none⟩ = some (.int .i64 (el l j).1) ∧ w.cell? ⟨b, off + j * 2 + 1, none⟩ = some va ∧ Arcs w va (el l j).2) := hc
 have HG : Hid (∀ j, j < l.length → ∀ (W : World) (va : Value), Below w.heap.size w W → Arcs W va (el l j).2 → Calls Tryz.prog g (#[.agg #[.int .i64 (el l j).1, va]] ++ lb) W fun e w' => e = .returned (.bool (p (el l j))) ∧ Below W.heap.size W w') := hg
 have HR : Hid (l.all p = r) := hr
 clear hS hc hg hr
 generalize hn : l.length = n at *
 have HN : Hid (l.length = n) := hn
 clear hn
 have hnot : ∀ (x : Bool) (w : World), (Op.unary .not (.bool x)).run Tryz.prog w = .ok (.bool (!x)) w := fun _ _ => rfl
 go_enter Tryz.func44, Tryz.ntmps44
 go_wp2
 go_loopw [10] (fun i wr => ∃ k : Nat, k ≤ n ∧ i = .int .i64 k ∧ Hid ((l.take k).all p = true) ∧ Below w.heap.size w wr) (fun i _ => n - (intOf i).toNat)
 case atStart => exact ⟨0, Nat.zero_le _, rfl, rfl, by go_grown⟩
 case round =>
  obtain ⟨k, hk, rfl, hok, hb⟩ := hrel
  by_cases hlt : k < n
  ·obtain ⟨b, off, va, rfl, hbl, g0, g1, gA⟩ := HC.out k hlt
   have g0 := (hb.cell (p := ⟨b, off + k * 2, none⟩) hbl).trans g0
   have g1 := (hb.cell (p := ⟨b, off + k * 2 + 1, none⟩) hbl).trans g1
   have GA := gA.later hb (Nat.le_refl _)
   have GA2 : Hid (Arcs (wr.alloc (.cells #[.int .i64 (el l k).1, va] 33)) va (el l k).2) := GA.later ((Below.refl _ _).alloc (Nat.le_refl _) _) (Nat.le_refl _)
   have HC1 := HG.out k hlt (wr.alloc (.cells #[.int .i64 (el l k).1, va] 33)) va (hb.alloc hb.size _) GA2.out
   have HB2 : Hid (Below w.heap.size w (wr.alloc (.cells #[.int .i64 (el l k).1, va] 33))) := hb.alloc hb.size _
   obtain ⟨a2, cap2, hva⟩ := GA.sl
   subst hva
   rcases bool_cases' (p (el l k)) with hp | hp
   ·have HO : Hid ((l.take (k + 1)).all p = true) := by show _ = _; rw [all_take_succ (by rw [HN.out]; exact hlt), hok.out, hp]; rfl
    rw [hp] at HC1
    have HCC : Hid (Calls Tryz.prog g (#[.agg #[.int .i64 (el l k).1, .slice a2 (el l k).2.length cap2]] ++ lb) (wr.alloc (.cells #[.int .i64 (el l k).1, .slice a2 (el l k).2.length cap2] 33)) fun e w' => e = .returned (.bool true) ∧ Below (wr.alloc (.cells #[.int .i64 (el l k).1, .slice a2 (el l k).2.length cap2] 33)).heap.size (wr.alloc (.cells #[.int .i64 (el l k).1, .slice a2 (el l k).2.length cap2] 33)) w') := HC1
    clear HC1 GA GA2 gA hp hok
    generalize (el l k).2.length = q at *
    generalize (el l k).1 = f at *
    go_wp2_with (go_at_fn g; refine HCC.out.mono ?_; rintro e w' ⟨rfl, hb'⟩; have HB3 : Hid (Below w.heap.size w w') := HB2.out.trans (hb'.mono HB2.out.size); clear hb')
    go_roundw
    case rel => exact ⟨k + 1, by omega, by go_num, HO, HB3.out⟩
    case measure => simp [intOf]; omega
   ·have HO : Hid (false = r) := by show _ = _; rw [← HR.out]; exact (all_false_el (by rw [HN.out]; exact hlt) hp).symm
    rw [hp] at HC1
    have HCC : Hid (Calls Tryz.prog g (#[.agg #[.int .i64 (el l k).1, .slice a2 (el l k).2.length cap2]] ++ lb) (wr.alloc (.cells #[.int .i64 (el l k).1, .slice a2 (el l k).2.length cap2] 33)) fun e w' => e = .returned (.bool false) ∧ Below (wr.alloc (.cells #[.int .i64 (el l k).1, .slice a2 (el l k).2.length cap2] 33)).heap.size (wr.alloc (.cells #[.int .i64 (el l k).1, .slice a2 (el l k).2.length cap2] 33)) w') := HC1
    clear HC1 GA GA2 gA hp hok
    generalize (el l k).2.length = q at *
    generalize (el l k).1 = f at *
    go_wp2_with (go_at_fn g; refine HCC.out.mono ?_; rintro e w' ⟨rfl, hb'⟩; have HB3 : Hid (Below w.heap.size w w') := HB2.out.trans (hb'.mono HB2.out.size); clear hb')
    go_ret
    exact ⟨ret_boolK HO.out, HB3.out⟩
  ·have hke : k = n := by omega
   have HO : Hid (true = r) := by show _ = _; rw [← HR.out]; have h := hok.out; rw [hke, ← HN.out, List.take_length] at h; exact h.symm
   have hnl : ¬ (k : Int) < (n : Int) := by omega
   clear hke hok hlt
   go_wp2
   go_ret
   exact ⟨ret_boolK HO.out, hb⟩
end Go.Proofs.YthajkkobgfighaaGreatDoor.Wt
