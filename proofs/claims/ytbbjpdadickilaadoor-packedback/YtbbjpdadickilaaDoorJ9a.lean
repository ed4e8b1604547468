/- Regions that draw their order and may panic. The program: a number out of bytes; a reader that takes bytes away. The program: the reader takes an arc. The program: the reader takes a state. The program: the reader takes a machine. The program: a machine out of bytes without their sum; the reader's way out is caught. -/
import Derived.Test.YtbbjpdadickilaaDoorRg
import Derived.Test.YtbbjpdadickilaaDoorBo
import Derived.Test.YtbbjpdadickilaaDoorPlainUq
import Derived.Laws.BitsLemmas
import Derived.Defers
import Derived.Recover
namespace Go.Proofs.YtbbjpdadickilaaDoor.Wt
open Go
/-- Q, but for a panic X. -/
def PanicTo (X : List PanicEntry → World → Prop) (Q : Exit → Act → World → Prop) : Exit → Act → World → Prop
  | .panic c, a, w => a.defers = [] ∧ X c w
  | e, a, w => Q e a w
theorem PanicTo.normal {X : List PanicEntry → World → Prop} {Q : Exit → Act → World → Prop} {a : Act} {w : World} (h : Q .normal a w) : PanicTo X Q .normal a w := h
theorem region_anyP (X : List PanicEntry → World → Prop) (S : World → Prop) (L : Nat) {P : Program} {ops : Array Oper} {Q : Exit → Act → World → Prop} {id : Nat} {a : Act} {w : World} (hm : P.follows .mixedOrders = true)
    (hX : ∀ c a w, a.defers = [] → X c w → Q (.panic c) a w) (h : AnyL P .any ops (PanicTo X Q) S L ops.size (Array.replicate ops.size false) a w.drew) : (Code.region id ops true).wp P Q a w :=
  Code.wp_mono (fun e a w h => by
    cases e <;> first | exact h | exact hX _ _ _ h.1 h.2) (wp_region_any hm (AnyL.any _ _ _ _ h))
end Go.Proofs.YtbbjpdadickilaaDoor.Wt
namespace Go.Proofs.YtbbjpdadickilaaDoor.Pl
set_option linter.unusedVariables false
theorem or_byte {m x : Int} (h0 : 0 ≤ m) (h1 : m < 4294967296) (hx : 0 ≤ x ∧ x < 256) : bits .or .i64 (m * 256) x = 256 * m + x := by
  rw [bits_join .i64 62 (by decide) (fun n h0 h1 => by rw [IntKind.wrap_i64]; omega) 8 (m * 256) x (by omega) (by omega) (by omega) hx.1 (by omega) (by omega)]
  omega
end Go.Proofs.YtbbjpdadickilaaDoor.Pl
namespace Go.Proofs.YtbbjpdadickilaaDoor.Wt
open Go.ChangeShapes Go.WideShapes Go.ChangeAt Go.RowKit
open Go.Proofs.YtbbjpdadickilaaDoor.Pl
set_option linter.unusedVariables false
set_option linter.unusedSimpArgs false
set_option maxRecDepth 100000 in
theorem numberOf_any (v : Value) (l : List Int) (w : World) (h : Bys w v l) (hb : bytesB l) (hl : l.length ≤ 4) (r : Int) (hr : joinL l = r) :
    Calls Tryd.prog 14 #[v] w fun e w' => e = .returned (.int .i64 r) ∧ w = w' := by
  subst hr
  obtain ⟨a, cap, rfl, hc⟩ := h.get
  have HC : Hid (∀ j, j < l.length → ∃ b off, a = some ⟨b, off, none⟩ ∧ b < w.heap.size ∧ w.cell? ⟨b, off + j, none⟩ = some (.int .u8 (el l j))) := hc
  have HB : Hid (bytesB l) := hb
  have HD : Hid (∀ i, i < l.length → l.take (i + 1) = l.take i ++ [el l i]) := fun i hi => take_el hi
  have HR : Hid (∀ i, 0 ≤ joinL (l.take i) ∧ joinL (l.take i) < 4294967296) := fun i => by
    have h1 := joinL_range _ (bytes_take hb i)
    have h2 := pow256 (k := (l.take i).length) (by rw [List.length_take]; omega)
    omega
  have HE : Hid (l.take l.length = l) := List.take_length
  clear hc hb h
  generalize hn : l.length = n at *
  have HN : Hid (l.length = n) := hn
  clear hn
  go_enter Tryd.func14, Tryd.ntmps14
  go_wp2
  go_loop [3, 8] (fun x i => ∃ c : Nat, c ≤ n ∧ i = .int .i64 c ∧ x = .int .i64 (joinL (l.take c))) (fun _ i => n - (intOf i).toNat)
  case atStart => exact ⟨0, Nat.zero_le _, rfl, rfl⟩
  case round =>
    obtain ⟨c, hck, rfl, rfl⟩ := hrel
    by_cases hlt : c < n
    · obtain ⟨b, off, rfl, hbl, g⟩ := HC.out c hlt
      have hx := HB.out (el l c) (el_mem (by rw [HN.out]; exact hlt))
      have HS : Hid (joinL (l.take (c + 1)) = 256 * joinL (l.take c) + el l c) := by show _ = _; rw [HD.out c hlt, joinL_snoc]
      have b1 := HR.out c
      generalize joinL (l.take c) = m at *
      generalize el l c = x at *
      have w1 : IntKind.i64.wrap (m * 256) = m * 256 := by rw [IntKind.wrap_i64]; omega
      have w2 : IntKind.i64.wrap x = x := by rw [IntKind.wrap_i64]; omega
      have w3 := or_byte b1.1 b1.2 hx
      have hlt' : (c : Int) < (n : Int) := by omega
      go_wp2
      go_round
      case rel => exact ⟨c + 1, by omega, by go_num, by rw [HS.out]⟩
      case measure => simp [intOf]; omega
    · have hnl : ¬ (c : Int) < (n : Int) := by omega
      obtain rfl : c = n := by omega
      go_wp2
      go_ret
      exact ⟨by rw [HE.out]; rfl, rfl⟩
/-- The reader in the block R has these bytes left, which lie below the block B. -/
def RdAt (w : World) (B R : Nat) (l : List Int) : Prop := ∃ a c, Blk w R #[.slice a l.length c] 66 ∧ l.length ≤ c ∧ B ≤ R ∧ bytesB l ∧ ∀ j, j < l.length → ∃ b off, a = some ⟨b, off, none⟩ ∧ b < B ∧ w.cell? ⟨b, off + j, none⟩ = some (.int .u8 (el l j))
theorem RdAt.keep {w w' : World} {B R : Nat} {l : List Int} {row : Option Nat} (h : RdAt w B R l) (hg : w.grownBy w' row) (hne : some R ≠ row) (hlow : ∀ k, row = some k → B ≤ k) : RdAt w' B R l := by
  obtain ⟨a, c, h1, h2, h3, h4, h5⟩ := h
  refine ⟨a, c, h1.grown hg hne, h2, h3, h4, fun j hj => ?_⟩
  obtain ⟨b, off, e1, e2, e3⟩ := h5 j hj
  refine ⟨b, off, e1, e2, ?_⟩
  have hb : w'.heap[b]? = w.heap[b]? := hg.block b (World.block_lt_of_cell? _ _ e3) (fun e => by have := hlow b e.symm; omega)
  rw [← e3]
  simp only [World.cell?, hb]
theorem RdAt.new {w w' : World} {B R : Nat} {l : List Int} (h : RdAt w B R l) (hb : Below w.heap.size w w') : RdAt w' B R l := h.keep (row := none) (gNew hb) (by simp) (by simp)
theorem RdAt.lt {w : World} {B R : Nat} {l : List Int} (h : RdAt w B R l) : R < w.heap.size := by obtain ⟨a, c, h1, _⟩ := h; exact h1.lt
theorem RdAt.low {w : World} {B R : Nat} {l : List Int} (h : RdAt w B R l) : B ≤ R := by obtain ⟨a, c, _, _, h1, _⟩ := h; exact h1
theorem RdAt.byt {w : World} {B R : Nat} {l : List Int} (h : RdAt w B R l) : bytesB l := by obtain ⟨a, c, _, _, _, h1, _⟩ := h; exact h1
/-- The way out of the reader. -/
def formP : List PanicEntry := [{ v := .iface 26 (.int .i64 3), recovered := false }]
set_option maxRecDepth 100000 in
theorem number_no (B R : Nat) (l : List Int) (k : Nat) (w : World) (h : RdAt w B R l) (hk : l.length < k) (hk4 : k ≤ 4) :
    Calls Tryd.prog 28 #[.pointer (some ⟨R, 0, none⟩), .int .i64 (k : Int)] w fun e w' => e = .panicked formP ∧ w = w' := by
  obtain ⟨a, c, hB, hlc, hBR, hby, hc⟩ := h
  have g0 := hB.cell 0 (v := .slice a l.length c) rfl
  have hlt : (l.length : Int) < (k : Int) := by omega
  clear hc hby hB
  generalize l.length = n at *
  go_enter Tryd.func28, Tryd.ntmps28
  go_wp2
  exact ⟨rfl, rfl, rfl⟩
set_option maxRecDepth 100000 in
theorem number_ok (B R : Nat) (l : List Int) (k : Nat) (w : World) (h : RdAt w B R l) (hk : k ≤ l.length) (hk0 : 0 < k) (hk4 : k ≤ 4) :
    Calls Tryd.prog 28 #[.pointer (some ⟨R, 0, none⟩), .int .i64 (k : Int)] w fun e w' => e = .returned (.int .i64 (joinL (l.take k))) ∧ RdAt w' B R (l.drop k) ∧ w.grownBy w' (some R) := by
  obtain ⟨a, c, hB, hlc, hBR, hby, hc⟩ := h
  have g0 := hB.cell 0 (v := .slice a l.length c) rfl
  have f0 := hB.fz 0
  obtain ⟨b, off, hab, hb, _⟩ := hc 0 (by omega)
  subst hab
  have HC : Hid (∀ j, j < l.length → w.cell? ⟨b, off + j, none⟩ = some (.int .u8 (el l j))) := fun j hj => by
    obtain ⟨b', off', h1, _, h2⟩ := hc j hj
    simp only [Option.some.injEq, Addr.mk.injEq, and_true] at h1
    rw [h1.1, h1.2]; exact h2
  have HN : Hid (Calls Tryd.prog 14 #[.slice (some ⟨b, off, none⟩) k c] w fun e w' => e = .returned (.int .i64 (joinL (l.take k))) ∧ w = w') := by
    refine numberOf_any _ (l.take k) w (.inr ⟨⟨b, off, none⟩, c, by rw [List.length_take, Nat.min_eq_left hk], fun j hj i u hu => ?_⟩) (bytes_take hby k) (by rw [List.length_take]; omega) _ rfl
    rw [List.length_take] at hj
    rw [el_take (by omega)] at hu
    cases i with
    | zero =>
      simp [encU1] at hu
      subst hu
      rw [Addr.add_lit, Nat.mul_one, Nat.add_zero]
      exact HC.out j (by omega)
    | succ i => simp [encU1] at hu
  have HF : Hid (∀ a' c', (a' = some ⟨b, off + k, none⟩ ∨ l.length = k) → l.length - k ≤ c' → RdAt (w.setCell ⟨R, 0, none⟩ (.slice a' (l.length - k) c')) B R (l.drop k) ∧ w.grownBy (w.setCell ⟨R, 0, none⟩ (.slice a' (l.length - k) c')) (some R)) := fun a' c' ha' hc' => by
    refine ⟨⟨a', c', ?_, by rw [List.length_drop]; exact hc', hBR, bytes_drop hby k, fun j hj => ?_⟩, gSet w R 0 _⟩
    · rw [List.length_drop]
      exact hB.set 0 _
    · rw [List.length_drop] at hj
      rcases ha' with rfl | e
      · refine ⟨b, off + k, rfl, hb, ?_⟩
        have h1 := HC.out (k + j) (by omega)
        rw [World.cell?_setCell_other _ _ _ _ (by intro e; injection e; omega), Nat.add_assoc, h1]
        congr 2
        simp [el]
      · omega
  clear hc hby hB
  generalize hn : l.length = n at *
  have hnl : ¬ (n : Int) < (k : Int) := by omega
  have s0 : (0 : Int) ≤ (k : Int) := by omega
  have s1 : (k : Int) ≤ (c : Int) := by omega
  have s2 : (k : Int) ≤ (n : Int) := by omega
  by_cases hck : c = k
  · subst hck
    go_enter Tryd.func28, Tryd.ntmps28
    go_wp2_with (first | (go_at_call 14; (with_reducible refine HN.out.mono ?_); rintro e w1 ⟨rfl, rfl⟩))
    go_ret
    have hf := HF.out (some ⟨b, off, none⟩) 0 (.inr (by omega)) (by omega)
    rw [show n - c = 0 by omega] at hf
    exact ⟨rfl, hf⟩
  · go_enter Tryd.func28, Tryd.ntmps28
    go_wp2_with (first | (go_at_call 14; (with_reducible refine HN.out.mono ?_); rintro e w1 ⟨rfl, rfl⟩))
    go_ret
    exact ⟨rfl, HF.out (some ⟨b, off + k, none⟩) (c - k) (.inl rfl) (by omega)⟩
theorem number_ok1 (B R : Nat) (l : List Int) (w : World) (h : RdAt w B R l) (hk : 1 ≤ l.length) :
    Calls Tryd.prog 28 #[.pointer (some ⟨R, 0, none⟩), .int .i64 1] w fun e w' => e = .returned (.int .i64 (joinL (l.take 1))) ∧ RdAt w' B R (l.drop 1) ∧ w.grownBy w' (some R) := number_ok B R l 1 w h hk (by omega) (by omega)
theorem number_ok2 (B R : Nat) (l : List Int) (w : World) (h : RdAt w B R l) (hk : 2 ≤ l.length) :
    Calls Tryd.prog 28 #[.pointer (some ⟨R, 0, none⟩), .int .i64 2] w fun e w' => e = .returned (.int .i64 (joinL (l.take 2))) ∧ RdAt w' B R (l.drop 2) ∧ w.grownBy w' (some R) := number_ok B R l 2 w h hk (by omega) (by omega)
theorem number_ok4 (B R : Nat) (l : List Int) (w : World) (h : RdAt w B R l) (hk : 4 ≤ l.length) :
    Calls Tryd.prog 28 #[.pointer (some ⟨R, 0, none⟩), .int .i64 4] w fun e w' => e = .returned (.int .i64 (joinL (l.take 4))) ∧ RdAt w' B R (l.drop 4) ∧ w.grownBy w' (some R) := number_ok B R l 4 w h hk (by omega) (by omega)
theorem number_no1 (B R : Nat) (l : List Int) (w : World) (h : RdAt w B R l) (hk : l.length < 1) :
    Calls Tryd.prog 28 #[.pointer (some ⟨R, 0, none⟩), .int .i64 1] w fun e w' => e = .panicked formP ∧ w = w' := number_no B R l 1 w h hk (by omega)
theorem number_no2 (B R : Nat) (l : List Int) (w : World) (h : RdAt w B R l) (hk : l.length < 2) :
    Calls Tryd.prog 28 #[.pointer (some ⟨R, 0, none⟩), .int .i64 2] w fun e w' => e = .panicked formP ∧ w = w' := number_no B R l 2 w h hk (by omega)
theorem number_no4 (B R : Nat) (l : List Int) (w : World) (h : RdAt w B R l) (hk : l.length < 4) :
    Calls Tryd.prog 28 #[.pointer (some ⟨R, 0, none⟩), .int .i64 4] w fun e w' => e = .panicked formP ∧ w = w' := number_no B R l 4 w h hk (by omega)
theorem RdAt.set {w : World} {B R : Nat} {l : List Int} (h : RdAt w B R l) {g : Nat} (hg : R < g) (o : Nat) (v : Value) : RdAt (w.setCell ⟨g, o, none⟩ v) B R l := h.keep (gSet w g o v) (by intro e; injection e; omega) (fun k e => by injection e; have := h.low; omega)
end Go.Proofs.YtbbjpdadickilaaDoor.Wt
namespace Go.Proofs.YtbbjpdadickilaaDoor.Pl
/-- The arc that stands first in the bytes. -/
def arcHd (l : List Int) : Ar := (joinL (l.take 2), joinL ((l.drop 2).take 2), joinL ((l.drop 4).take 4), joinL ((l.drop 8).take 1))
end Go.Proofs.YtbbjpdadickilaaDoor.Pl
namespace Go.Proofs.YtbbjpdadickilaaDoor.Wt
open Go.ChangeShapes Go.WideShapes Go.ChangeAt Go.RowKit
open Go.Proofs.YtbbjpdadickilaaDoor.Pl
set_option linter.unusedVariables false
set_option linter.unusedSimpArgs false
/-- The way that the reader goes: its own block alone changes, where the call began in w. -/
theorem gSt {w W : World} {R : Nat} (h : w.grownBy W (some R)) {g : Nat} (hg : w.heap.size ≤ g) (o : Nat) (v : Value) : w.grownBy (W.setCell ⟨g, o, none⟩ v) (some R) := gSetNew h hg o v
theorem blkS {w W : World} {R g : Nat} {cs : Array Value} {t : TypeId} (hb : Blk w g cs t) (h : w.grownBy W (some R)) (hg : R < g) : Blk W g cs t := hb.grown h (by intro e; injection e; omega)
set_option maxRecDepth 100000 in
theorem arc_ok (B R : Nat) (l : List Int) (w : World) (h : RdAt w B R l) (hk : 9 ≤ l.length) :
    Calls Tryd.prog 41 #[.pointer (some ⟨R, 0, none⟩)] w fun e w' => e = .returned (.agg #[.int .i64 (arcHd l).1, .int .i64 (arcHd l).2.1, .int .i64 (arcHd l).2.2.1, .int .i64 (arcHd l).2.2.2]) ∧ RdAt w' B R (l.drop 9) ∧ w.grownBy w' (some R) := by
  obtain ⟨x0, e0⟩ : ∃ x, joinL (l.take 2) = x := ⟨_, rfl⟩
  obtain ⟨x1, e1⟩ : ∃ x, joinL ((l.drop 2).take 2) = x := ⟨_, rfl⟩
  obtain ⟨x2, e2⟩ : ∃ x, joinL ((l.drop 4).take 4) = x := ⟨_, rfl⟩
  obtain ⟨x3, e3⟩ : ∃ x, joinL ((l.drop 8).take 1) = x := ⟨_, rfl⟩
  have hX : arcHd l = (x0, x1, x2, x3) := by unfold arcHd; rw [e0, e1, e2, e3]
  rw [hX]
  have hRl := h.lt
  have hb0 : Below w.heap.size w ((w.alloc (.cells #[.int .i64 0, .int .i64 0, .int .i64 0, .int .i64 0] 52)).alloc (.cells #[.int .i64 0, .int .i64 0, .int .i64 0, .int .i64 0] 52)) := ((Below.refl _ _).alloc (Nat.le_refl _) _).alloc (by simp) _
  have HR0 : Hid (RdAt ((w.alloc (.cells #[.int .i64 0, .int .i64 0, .int .i64 0, .int .i64 0] 52)).alloc (.cells #[.int .i64 0, .int .i64 0, .int .i64 0, .int .i64 0] 52)) B R l) := h.new hb0
  have HG0 : Hid (w.grownBy ((w.alloc (.cells #[.int .i64 0, .int .i64 0, .int .i64 0, .int .i64 0] 52)).alloc (.cells #[.int .i64 0, .int .i64 0, .int .i64 0, .int .i64 0] 52)) (some R)) := gNew hb0
  have HA0 : Hid (Blk ((w.alloc (.cells #[.int .i64 0, .int .i64 0, .int .i64 0, .int .i64 0] 52)).alloc (.cells #[.int .i64 0, .int .i64 0, .int .i64 0, .int .i64 0] 52)) w.heap.size #[.int .i64 0, .int .i64 0, .int .i64 0, .int .i64 0] 52) := (Blk.made w _ _).alloc _
  have HC0 : Hid (Blk ((w.alloc (.cells #[.int .i64 0, .int .i64 0, .int .i64 0, .int .i64 0] 52)).alloc (.cells #[.int .i64 0, .int .i64 0, .int .i64 0, .int .i64 0] 52)) (w.heap.size + 1) #[.int .i64 0, .int .i64 0, .int .i64 0, .int .i64 0] 52) := by
    have := Blk.made (w.alloc (.cells #[.int .i64 0, .int .i64 0, .int .i64 0, .int .i64 0] 52)) #[.int .i64 0, .int .i64 0, .int .i64 0, .int .i64 0] 52
    rw [World.size_alloc] at this
    exact this
  clear hb0 h
  have F1 : Hid (∀ W, RdAt W B R l → Calls Tryd.prog 28 #[.pointer (some ⟨R, 0, none⟩), .int .i64 2] W fun e w' => e = .returned (.int .i64 x0) ∧ RdAt w' B R (l.drop 2) ∧ W.grownBy w' (some R)) := fun W g => by rw [← e0]; exact number_ok2 B R l W g (by omega)
  have F2 : Hid (∀ W, RdAt W B R (l.drop 2) → Calls Tryd.prog 28 #[.pointer (some ⟨R, 0, none⟩), .int .i64 2] W fun e w' => e = .returned (.int .i64 x1) ∧ RdAt w' B R (l.drop 4) ∧ W.grownBy w' (some R)) := fun W g => by
    have := number_ok2 B R (l.drop 2) W g (by rw [List.length_drop]; omega)
    rw [e1, List.drop_drop] at this
    exact this
  have F3 : Hid (∀ W, RdAt W B R (l.drop 4) → Calls Tryd.prog 28 #[.pointer (some ⟨R, 0, none⟩), .int .i64 4] W fun e w' => e = .returned (.int .i64 x2) ∧ RdAt w' B R (l.drop 8) ∧ W.grownBy w' (some R)) := fun W g => by
    have := number_ok4 B R (l.drop 4) W g (by rw [List.length_drop]; omega)
    rw [e2, List.drop_drop] at this
    exact this
  have F4 : Hid (∀ W, RdAt W B R (l.drop 8) → Calls Tryd.prog 28 #[.pointer (some ⟨R, 0, none⟩), .int .i64 1] W fun e w' => e = .returned (.int .i64 x3) ∧ RdAt w' B R (l.drop 9) ∧ W.grownBy w' (some R)) := fun W g => by
    have := number_ok1 B R (l.drop 8) W g (by rw [List.length_drop]; omega)
    rw [e3, List.drop_drop] at this
    exact this
  generalize l.drop 2 = M1 at *
  generalize l.drop 4 = M2 at *
  generalize l.drop 8 = M3 at *
  generalize l.drop 9 = M4 at *
  clear e0 e1 e2 e3 hX
  go_enter Tryd.func41, Tryd.ntmps41
  go_wp2_with (first
    | (go_at_call 28; (with_reducible refine (F1.out _ HR0.out).mono ?_); rintro e w1 ⟨rfl, hr, hg⟩; have HR1 := hid hr; have HG1 := hid (gTrans HG0.out hg); have HA1 := hid (blkS HA0.out hg (by omega)); have HC1 := hid (blkS HC0.out hg (by omega)); have c1 := HC1.out.cell 0 (v := .int .i64 0) rfl; have f1 := HC1.out.fz 0; clear hr hg)
    | (go_at_call 28; (with_reducible refine (F2.out _ (HR1.out.set (by omega) _ _)).mono ?_); rintro e w2 ⟨rfl, hr, hg⟩; have HR2 := hid hr; have HG2 := hid (gTrans (gSt HG1.out (by omega) _ _) hg); have HA2 := hid (blkS (HA1.out.setO ⟨w.heap.size + 1, 0, none⟩ _ (by simp)) hg (by omega)); have HC2 := hid (blkS (HC1.out.set 0 (.int .i64 x0)) hg (by omega)); have c2 := HC2.out.cell 1 (v := .int .i64 0) rfl; have f2 := HC2.out.fz 1; clear hr hg)
    | (go_at_call 28; (with_reducible refine (F3.out _ (HR2.out.set (by omega) _ _)).mono ?_); rintro e w3 ⟨rfl, hr, hg⟩; have HR3 := hid hr; have HG3 := hid (gTrans (gSt HG2.out (by omega) _ _) hg); have HA3 := hid (blkS (HA2.out.setO ⟨w.heap.size + 1, 1, none⟩ _ (by simp)) hg (by omega)); have HC3 := hid (blkS (HC2.out.set 1 (.int .i64 x1)) hg (by omega)); have c3 := HC3.out.cell 2 (v := .int .i64 0) rfl; have f3 := HC3.out.fz 2; clear hr hg)
    | (go_at_call 28; (with_reducible refine (F4.out _ (HR3.out.set (by omega) _ _)).mono ?_); rintro e w4 ⟨rfl, hr, hg⟩; have HR4 := hid hr; have HG4 := hid (gTrans (gSt HG3.out (by omega) _ _) hg); have HA4 := hid (blkS (HA3.out.setO ⟨w.heap.size + 1, 2, none⟩ _ (by simp)) hg (by omega)); have HC4 := hid (blkS (HC3.out.set 2 (.int .i64 x2)) hg (by omega)); have c4 := HC4.out.cell 3 (v := .int .i64 0) rfl; have f4 := HC4.out.fz 3; have c40 := HC4.out.cell 0 (v := .int .i64 x0) rfl; have c41 := HC4.out.cell 1 (v := .int .i64 x1) rfl; have c42 := HC4.out.cell 2 (v := .int .i64 x2) rfl; have a40 := HA4.out.cell 0 (v := .int .i64 0) rfl; have a41 := HA4.out.cell 1 (v := .int .i64 0) rfl; have a42 := HA4.out.cell 2 (v := .int .i64 0) rfl; have a43 := HA4.out.cell 3 (v := .int .i64 0) rfl; have b40 := HA4.out.fz 0; have b41 := HA4.out.fz 1; have b42 := HA4.out.fz 2; have b43 := HA4.out.fz 3; clear hr hg))
  have KA := ((((HA4.out.setO ⟨w.heap.size + 1, 3, none⟩ (.int .i64 x3) (by simp)).set 0 (.int .i64 x0)).set 1 (.int .i64 x1)).set 2 (.int .i64 x2)).set 3 (.int .i64 x3)
  have k0 := KA.cell 0 (v := .int .i64 x0) rfl
  have k1 := KA.cell 1 (v := .int .i64 x1) rfl
  have k2 := KA.cell 2 (v := .int .i64 x2) rfl
  have k3 := KA.cell 3 (v := .int .i64 x3) rfl
  generalize hW5 : ((((w4.setCell ⟨w.heap.size + 1, 3, none⟩ (.int .i64 x3)).setCell ⟨w.heap.size, 0, none⟩ (.int .i64 x0)).setCell ⟨w.heap.size, 1, none⟩ (.int .i64 x1)).setCell ⟨w.heap.size, 2, none⟩ (.int .i64 x2)).setCell ⟨w.heap.size, 3, none⟩ (.int .i64 x3) = W5 at *
  refine bodyPost_ret (v := .agg #[.int .i64 x0, .int .i64 x1, .int .i64 x2, .int .i64 x3]) (by simp [results, Tryd.results41, go_sem, k0, k1, k2, k3]) rfl ⟨rfl, ?_, ?_⟩
  · rw [← hW5]
    exact ((((HR4.out.set (by omega) _ _).set (by omega) _ _).set (by omega) _ _).set (by omega) _ _).set (by omega) _ _
  · rw [← hW5]
    exact gSt (gSt (gSt (gSt (gSt HG4.out (by omega) _ _) (by omega) _ _) (by omega) _ _) (by omega) _ _) (by omega) _ _
set_option maxRecDepth 100000 in
theorem arc_no0 (B R : Nat) (l : List Int) (w : World) (h : RdAt w B R l) (hk : 0 ≤ l.length) (hk2 : l.length < 2) :
    Calls Tryd.prog 41 #[.pointer (some ⟨R, 0, none⟩)] w fun e w' => e = .panicked formP ∧ w.grownBy w' (some R) := by
  have hRl := h.lt
  have hb0 : Below w.heap.size w ((w.alloc (.cells #[.int .i64 0, .int .i64 0, .int .i64 0, .int .i64 0] 52)).alloc (.cells #[.int .i64 0, .int .i64 0, .int .i64 0, .int .i64 0] 52)) := ((Below.refl _ _).alloc (Nat.le_refl _) _).alloc (by simp) _
  have HR0 : Hid (RdAt ((w.alloc (.cells #[.int .i64 0, .int .i64 0, .int .i64 0, .int .i64 0] 52)).alloc (.cells #[.int .i64 0, .int .i64 0, .int .i64 0, .int .i64 0] 52)) B R l) := h.new hb0
  have HG0 : Hid (w.grownBy ((w.alloc (.cells #[.int .i64 0, .int .i64 0, .int .i64 0, .int .i64 0] 52)).alloc (.cells #[.int .i64 0, .int .i64 0, .int .i64 0, .int .i64 0] 52)) (some R)) := gNew hb0
  have HA0 : Hid (Blk ((w.alloc (.cells #[.int .i64 0, .int .i64 0, .int .i64 0, .int .i64 0] 52)).alloc (.cells #[.int .i64 0, .int .i64 0, .int .i64 0, .int .i64 0] 52)) w.heap.size #[.int .i64 0, .int .i64 0, .int .i64 0, .int .i64 0] 52) := (Blk.made w _ _).alloc _
  have HC0 : Hid (Blk ((w.alloc (.cells #[.int .i64 0, .int .i64 0, .int .i64 0, .int .i64 0] 52)).alloc (.cells #[.int .i64 0, .int .i64 0, .int .i64 0, .int .i64 0] 52)) (w.heap.size + 1) #[.int .i64 0, .int .i64 0, .int .i64 0, .int .i64 0] 52) := by
    have := Blk.made (w.alloc (.cells #[.int .i64 0, .int .i64 0, .int .i64 0, .int .i64 0] 52)) #[.int .i64 0, .int .i64 0, .int .i64 0, .int .i64 0] 52
    rw [World.size_alloc] at this
    exact this
  clear hb0 h
  have FN : Hid (∀ W, RdAt W B R l → Calls Tryd.prog 28 #[.pointer (some ⟨R, 0, none⟩), .int .i64 2] W fun e w' => e = .panicked formP ∧ W = w') := fun W g => number_no2 B R _ W g (by omega)
  go_enter Tryd.func41, Tryd.ntmps41
  go_wp2_with (first
    | (go_at_call 28; (with_reducible refine (FN.out _ HR0.out).mono ?_); rintro e wn ⟨rfl, rfl⟩))
  exact ⟨rfl, rfl, HG0.out⟩
set_option maxRecDepth 100000 in
theorem arc_no1 (B R : Nat) (l : List Int) (w : World) (h : RdAt w B R l) (hk : 2 ≤ l.length) (hk2 : l.length < 4) :
    Calls Tryd.prog 41 #[.pointer (some ⟨R, 0, none⟩)] w fun e w' => e = .panicked formP ∧ w.grownBy w' (some R) := by
  obtain ⟨x0, e0⟩ : ∃ x, joinL (l.take 2) = x := ⟨_, rfl⟩
  have hRl := h.lt
  have hb0 : Below w.heap.size w ((w.alloc (.cells #[.int .i64 0, .int .i64 0, .int .i64 0, .int .i64 0] 52)).alloc (.cells #[.int .i64 0, .int .i64 0, .int .i64 0, .int .i64 0] 52)) := ((Below.refl _ _).alloc (Nat.le_refl _) _).alloc (by simp) _
  have HR0 : Hid (RdAt ((w.alloc (.cells #[.int .i64 0, .int .i64 0, .int .i64 0, .int .i64 0] 52)).alloc (.cells #[.int .i64 0, .int .i64 0, .int .i64 0, .int .i64 0] 52)) B R l) := h.new hb0
  have HG0 : Hid (w.grownBy ((w.alloc (.cells #[.int .i64 0, .int .i64 0, .int .i64 0, .int .i64 0] 52)).alloc (.cells #[.int .i64 0, .int .i64 0, .int .i64 0, .int .i64 0] 52)) (some R)) := gNew hb0
  have HA0 : Hid (Blk ((w.alloc (.cells #[.int .i64 0, .int .i64 0, .int .i64 0, .int .i64 0] 52)).alloc (.cells #[.int .i64 0, .int .i64 0, .int .i64 0, .int .i64 0] 52)) w.heap.size #[.int .i64 0, .int .i64 0, .int .i64 0, .int .i64 0] 52) := (Blk.made w _ _).alloc _
  have HC0 : Hid (Blk ((w.alloc (.cells #[.int .i64 0, .int .i64 0, .int .i64 0, .int .i64 0] 52)).alloc (.cells #[.int .i64 0, .int .i64 0, .int .i64 0, .int .i64 0] 52)) (w.heap.size + 1) #[.int .i64 0, .int .i64 0, .int .i64 0, .int .i64 0] 52) := by
    have := Blk.made (w.alloc (.cells #[.int .i64 0, .int .i64 0, .int .i64 0, .int .i64 0] 52)) #[.int .i64 0, .int .i64 0, .int .i64 0, .int .i64 0] 52
    rw [World.size_alloc] at this
    exact this
  clear hb0 h
  have F1 : Hid (∀ W, RdAt W B R l → Calls Tryd.prog 28 #[.pointer (some ⟨R, 0, none⟩), .int .i64 2] W fun e w' => e = .returned (.int .i64 x0) ∧ RdAt w' B R (l.drop 2) ∧ W.grownBy w' (some R)) := fun W g => by rw [← e0]; exact number_ok2 B R l W g (by omega)
  have FN : Hid (∀ W, RdAt W B R (l.drop 2) → Calls Tryd.prog 28 #[.pointer (some ⟨R, 0, none⟩), .int .i64 2] W fun e w' => e = .panicked formP ∧ W = w') := fun W g => number_no2 B R _ W g (by rw [List.length_drop]; omega)
  generalize l.drop 2 = M1 at *
  clear e0
  go_enter Tryd.func41, Tryd.ntmps41
  go_wp2_with (first
    | (go_at_call 28; (with_reducible refine (F1.out _ HR0.out).mono ?_); rintro e w1 ⟨rfl, hr, hg⟩; have HR1 := hid hr; have HG1 := hid (gTrans HG0.out hg); have HA1 := hid (blkS HA0.out hg (by omega)); have HC1 := hid (blkS HC0.out hg (by omega)); have c1 := HC1.out.cell 0 (v := .int .i64 0) rfl; have f1 := HC1.out.fz 0; clear hr hg)
    | (go_at_call 28; (with_reducible refine (FN.out _ (HR1.out.set (by omega) _ _)).mono ?_); rintro e wn ⟨rfl, rfl⟩))
  exact ⟨rfl, rfl, (gSt HG1.out (by omega) _ _)⟩
set_option maxRecDepth 100000 in
theorem arc_no2 (B R : Nat) (l : List Int) (w : World) (h : RdAt w B R l) (hk : 4 ≤ l.length) (hk2 : l.length < 8) :
    Calls Tryd.prog 41 #[.pointer (some ⟨R, 0, none⟩)] w fun e w' => e = .panicked formP ∧ w.grownBy w' (some R) := by
  obtain ⟨x0, e0⟩ : ∃ x, joinL (l.take 2) = x := ⟨_, rfl⟩
  obtain ⟨x1, e1⟩ : ∃ x, joinL ((l.drop 2).take 2) = x := ⟨_, rfl⟩
  have hRl := h.lt
  have hb0 : Below w.heap.size w ((w.alloc (.cells #[.int .i64 0, .int .i64 0, .int .i64 0, .int .i64 0] 52)).alloc (.cells #[.int .i64 0, .int .i64 0, .int .i64 0, .int .i64 0] 52)) := ((Below.refl _ _).alloc (Nat.le_refl _) _).alloc (by simp) _
  have HR0 : Hid (RdAt ((w.alloc (.cells #[.int .i64 0, .int .i64 0, .int .i64 0, .int .i64 0] 52)).alloc (.cells #[.int .i64 0, .int .i64 0, .int .i64 0, .int .i64 0] 52)) B R l) := h.new hb0
  have HG0 : Hid (w.grownBy ((w.alloc (.cells #[.int .i64 0, .int .i64 0, .int .i64 0, .int .i64 0] 52)).alloc (.cells #[.int .i64 0, .int .i64 0, .int .i64 0, .int .i64 0] 52)) (some R)) := gNew hb0
  have HA0 : Hid (Blk ((w.alloc (.cells #[.int .i64 0, .int .i64 0, .int .i64 0, .int .i64 0] 52)).alloc (.cells #[.int .i64 0, .int .i64 0, .int .i64 0, .int .i64 0] 52)) w.heap.size #[.int .i64 0, .int .i64 0, .int .i64 0, .int .i64 0] 52) := (Blk.made w _ _).alloc _
  have HC0 : Hid (Blk ((w.alloc (.cells #[.int .i64 0, .int .i64 0, .int .i64 0, .int .i64 0] 52)).alloc (.cells #[.int .i64 0, .int .i64 0, .int .i64 0, .int .i64 0] 52)) (w.heap.size + 1) #[.int .i64 0, .int .i64 0, .int .i64 0, .int .i64 0] 52) := by
    have := Blk.made (w.alloc (.cells #[.int .i64 0, .int .i64 0, .int .i64 0, .int .i64 0] 52)) #[.int .i64 0, .int .i64 0, .int .i64 0, .int .i64 0] 52
    rw [World.size_alloc] at this
    exact this
  clear hb0 h
  have F1 : Hid (∀ W, RdAt W B R l → Calls Tryd.prog 28 #[.pointer (some ⟨R, 0, none⟩), .int .i64 2] W fun e w' => e = .returned (.int .i64 x0) ∧ RdAt w' B R (l.drop 2) ∧ W.grownBy w' (some R)) := fun W g => by rw [← e0]; exact number_ok2 B R l W g (by omega)
  have F2 : Hid (∀ W, RdAt W B R (l.drop 2) → Calls Tryd.prog 28 #[.pointer (some ⟨R, 0, none⟩), .int .i64 2] W fun e w' => e = .returned (.int .i64 x1) ∧ RdAt w' B R (l.drop 4) ∧ W.grownBy w' (some R)) := fun W g => by
    have := number_ok2 B R (l.drop 2) W g (by rw [List.length_drop]; omega)
    rw [e1, List.drop_drop] at this
    exact this
  have FN : Hid (∀ W, RdAt W B R (l.drop 4) → Calls Tryd.prog 28 #[.pointer (some ⟨R, 0, none⟩), .int .i64 4] W fun e w' => e = .panicked formP ∧ W = w') := fun W g => number_no4 B R _ W g (by rw [List.length_drop]; omega)
  generalize l.drop 2 = M1 at *
  generalize l.drop 4 = M2 at *
  clear e0 e1
  go_enter Tryd.func41, Tryd.ntmps41
  go_wp2_with (first
    | (go_at_call 28; (with_reducible refine (F1.out _ HR0.out).mono ?_); rintro e w1 ⟨rfl, hr, hg⟩; have HR1 := hid hr; have HG1 := hid (gTrans HG0.out hg); have HA1 := hid (blkS HA0.out hg (by omega)); have HC1 := hid (blkS HC0.out hg (by omega)); have c1 := HC1.out.cell 0 (v := .int .i64 0) rfl; have f1 := HC1.out.fz 0; clear hr hg)
    | (go_at_call 28; (with_reducible refine (F2.out _ (HR1.out.set (by omega) _ _)).mono ?_); rintro e w2 ⟨rfl, hr, hg⟩; have HR2 := hid hr; have HG2 := hid (gTrans (gSt HG1.out (by omega) _ _) hg); have HA2 := hid (blkS (HA1.out.setO ⟨w.heap.size + 1, 0, none⟩ _ (by simp)) hg (by omega)); have HC2 := hid (blkS (HC1.out.set 0 (.int .i64 x0)) hg (by omega)); have c2 := HC2.out.cell 1 (v := .int .i64 0) rfl; have f2 := HC2.out.fz 1; clear hr hg)
    | (go_at_call 28; (with_reducible refine (FN.out _ (HR2.out.set (by omega) _ _)).mono ?_); rintro e wn ⟨rfl, rfl⟩))
  exact ⟨rfl, rfl, (gSt HG2.out (by omega) _ _)⟩
set_option maxRecDepth 100000 in
theorem arc_no3 (B R : Nat) (l : List Int) (w : World) (h : RdAt w B R l) (hk : 8 ≤ l.length) (hk2 : l.length < 9) :
    Calls Tryd.prog 41 #[.pointer (some ⟨R, 0, none⟩)] w fun e w' => e = .panicked formP ∧ w.grownBy w' (some R) := by
  obtain ⟨x0, e0⟩ : ∃ x, joinL (l.take 2) = x := ⟨_, rfl⟩
  obtain ⟨x1, e1⟩ : ∃ x, joinL ((l.drop 2).take 2) = x := ⟨_, rfl⟩
  obtain ⟨x2, e2⟩ : ∃ x, joinL ((l.drop 4).take 4) = x := ⟨_, rfl⟩
  have hRl := h.lt
  have hb0 : Below w.heap.size w ((w.alloc (.cells #[.int .i64 0, .int .i64 0, .int .i64 0, .int .i64 0] 52)).alloc (.cells #[.int .i64 0, .int .i64 0, .int .i64 0, .int .i64 0] 52)) := ((Below.refl _ _).alloc (Nat.le_refl _) _).alloc (by simp) _
  have HR0 : Hid (RdAt ((w.alloc (.cells #[.int .i64 0, .int .i64 0, .int .i64 0, .int .i64 0] 52)).alloc (.cells #[.int .i64 0, .int .i64 0, .int .i64 0, .int .i64 0] 52)) B R l) := h.new hb0
  have HG0 : Hid (w.grownBy ((w.alloc (.cells #[.int .i64 0, .int .i64 0, .int .i64 0, .int .i64 0] 52)).alloc (.cells #[.int .i64 0, .int .i64 0, .int .i64 0, .int .i64 0] 52)) (some R)) := gNew hb0
  have HA0 : Hid (Blk ((w.alloc (.cells #[.int .i64 0, .int .i64 0, .int .i64 0, .int .i64 0] 52)).alloc (.cells #[.int .i64 0, .int .i64 0, .int .i64 0, .int .i64 0] 52)) w.heap.size #[.int .i64 0, .int .i64 0, .int .i64 0, .int .i64 0] 52) := (Blk.made w _ _).alloc _
  have HC0 : Hid (Blk ((w.alloc (.cells #[.int .i64 0, .int .i64 0, .int .i64 0, .int .i64 0] 52)).alloc (.cells #[.int .i64 0, .int .i64 0, .int .i64 0, .int .i64 0] 52)) (w.heap.size + 1) #[.int .i64 0, .int .i64 0, .int .i64 0, .int .i64 0] 52) := by
    have := Blk.made (w.alloc (.cells #[.int .i64 0, .int .i64 0, .int .i64 0, .int .i64 0] 52)) #[.int .i64 0, .int .i64 0, .int .i64 0, .int .i64 0] 52
    rw [World.size_alloc] at this
    exact this
  clear hb0 h
  have F1 : Hid (∀ W, RdAt W B R l → Calls Tryd.prog 28 #[.pointer (some ⟨R, 0, none⟩), .int .i64 2] W fun e w' => e = .returned (.int .i64 x0) ∧ RdAt w' B R (l.drop 2) ∧ W.grownBy w' (some R)) := fun W g => by rw [← e0]; exact number_ok2 B R l W g (by omega)
  have F2 : Hid (∀ W, RdAt W B R (l.drop 2) → Calls Tryd.prog 28 #[.pointer (some ⟨R, 0, none⟩), .int .i64 2] W fun e w' => e = .returned (.int .i64 x1) ∧ RdAt w' B R (l.drop 4) ∧ W.grownBy w' (some R)) := fun W g => by
    have := number_ok2 B R (l.drop 2) W g (by rw [List.length_drop]; omega)
    rw [e1, List.drop_drop] at this
    exact this
  have F3 : Hid (∀ W, RdAt W B R (l.drop 4) → Calls Tryd.prog 28 #[.pointer (some ⟨R, 0, none⟩), .int .i64 4] W fun e w' => e = .returned (.int .i64 x2) ∧ RdAt w' B R (l.drop 8) ∧ W.grownBy w' (some R)) := fun W g => by
    have := number_ok4 B R (l.drop 4) W g (by rw [List.length_drop]; omega)
    rw [e2, List.drop_drop] at this
    exact this
  have FN : Hid (∀ W, RdAt W B R (l.drop 8) → Calls Tryd.prog 28 #[.pointer (some ⟨R, 0, none⟩), .int .i64 1] W fun e w' => e = .panicked formP ∧ W = w') := fun W g => number_no1 B R _ W g (by rw [List.length_drop]; omega)
  generalize l.drop 2 = M1 at *
  generalize l.drop 4 = M2 at *
  generalize l.drop 8 = M3 at *
  clear e0 e1 e2
  go_enter Tryd.func41, Tryd.ntmps41
  go_wp2_with (first
    | (go_at_call 28; (with_reducible refine (F1.out _ HR0.out).mono ?_); rintro e w1 ⟨rfl, hr, hg⟩; have HR1 := hid hr; have HG1 := hid (gTrans HG0.out hg); have HA1 := hid (blkS HA0.out hg (by omega)); have HC1 := hid (blkS HC0.out hg (by omega)); have c1 := HC1.out.cell 0 (v := .int .i64 0) rfl; have f1 := HC1.out.fz 0; clear hr hg)
    | (go_at_call 28; (with_reducible refine (F2.out _ (HR1.out.set (by omega) _ _)).mono ?_); rintro e w2 ⟨rfl, hr, hg⟩; have HR2 := hid hr; have HG2 := hid (gTrans (gSt HG1.out (by omega) _ _) hg); have HA2 := hid (blkS (HA1.out.setO ⟨w.heap.size + 1, 0, none⟩ _ (by simp)) hg (by omega)); have HC2 := hid (blkS (HC1.out.set 0 (.int .i64 x0)) hg (by omega)); have c2 := HC2.out.cell 1 (v := .int .i64 0) rfl; have f2 := HC2.out.fz 1; clear hr hg)
    | (go_at_call 28; (with_reducible refine (F3.out _ (HR2.out.set (by omega) _ _)).mono ?_); rintro e w3 ⟨rfl, hr, hg⟩; have HR3 := hid hr; have HG3 := hid (gTrans (gSt HG2.out (by omega) _ _) hg); have HA3 := hid (blkS (HA2.out.setO ⟨w.heap.size + 1, 1, none⟩ _ (by simp)) hg (by omega)); have HC3 := hid (blkS (HC2.out.set 1 (.int .i64 x1)) hg (by omega)); have c3 := HC3.out.cell 2 (v := .int .i64 0) rfl; have f3 := HC3.out.fz 2; clear hr hg)
    | (go_at_call 28; (with_reducible refine (FN.out _ (HR3.out.set (by omega) _ _)).mono ?_); rintro e wn ⟨rfl, rfl⟩))
  exact ⟨rfl, rfl, (gSt HG3.out (by omega) _ _)⟩
theorem arc_no (B R : Nat) (l : List Int) (w : World) (h : RdAt w B R l) (hk : l.length < 9) :
    Calls Tryd.prog 41 #[.pointer (some ⟨R, 0, none⟩)] w fun e w' => e = .panicked formP ∧ w.grownBy w' (some R) := by
  by_cases h2 : l.length < 2
  · exact arc_no0 B R l w h (by omega) h2
  · by_cases h4 : l.length < 4
    · exact arc_no1 B R l w h (by omega) h4
    · by_cases h8 : l.length < 8
      · exact arc_no2 B R l w h (by omega) h8
      · exact arc_no3 B R l w h (by omega) hk
end Go.Proofs.YtbbjpdadickilaaDoor.Wt
namespace Go.Proofs.YtbbjpdadickilaaDoor.Pl
set_option linter.unusedVariables false
/-- The first arcs of the state that stands first in the bytes. -/
def arcsHd (l : List Int) (j : Nat) : List Ar := (List.range j).map fun i => arcHd (l.drop (6 + 9 * i))
theorem arcsHd_len (l : List Int) (j : Nat) : (arcsHd l j).length = j := by simp [arcsHd]
theorem arcsHd_succ (l : List Int) (j : Nat) : arcsHd l (j + 1) = arcsHd l j ++ [arcHd (l.drop (6 + 9 * j))] := by simp [arcsHd, List.range_succ]
end Go.Proofs.YtbbjpdadickilaaDoor.Pl
namespace Go.Proofs.YtbbjpdadickilaaDoor.Wt
open Go.ChangeShapes Go.WideShapes Go.ChangeAt Go.RowKit
open Go.Proofs.YtbbjpdadickilaaDoor.Pl
set_option linter.unusedVariables false
set_option linter.unusedSimpArgs false
theorem RdAt.below {w w' : World} {B R C : Nat} {l : List Int} (h : RdAt w B R l) (hb : Below C w w') (hC : R < C) : RdAt w' B R l := by
  obtain ⟨a, c, h1, h2, h3, h4, h5⟩ := h
  refine ⟨a, c, h1.below hb hC, h2, h3, h4, fun j hj => ?_⟩
  obtain ⟨b, off, e1, e2, e3⟩ := h5 j hj
  exact ⟨b, off, e1, e2, (hb.cell (by show b < C; omega)).trans e3⟩
theorem gBel {w W W' : World} {R C : Nat} (h : w.grownBy W (some R)) (hb : Below C W W') (hC : w.heap.size ≤ C) : w.grownBy W' (some R) :=
  ⟨hb.os.trans h.os, hb.tape.trans h.tape, hb.output.trans h.output, Nat.le_trans h.size hb.size, fun k hk hne => (hb.block k (by omega)).trans (h.block k hk hne)⟩
theorem own_keep {w W : World} {base R : Nat} {e : TypeId} {s : Nat} {v : Value} {n : Nat} {xs : List Value} (h : w.ownsRow base e s v n xs) (hg : w.grownBy W (some R)) (hR : R < base) : W.ownsRow base e s v n xs :=
  h.kept hg (.inr fun e => by have := own_geK h R e; omega)
/-- What comes of a state: it is there as a whole, or the reader gives up. -/
def StRes (B R : Nat) (l : List Int) (mn : Nat) (w : World) (e : Ending) (w' : World) : Prop :=
  (6 + 9 * mn ≤ l.length ∧ ∃ a c, e = .returned (.agg #[.int .i64 (joinL (l.take 4)), .slice a mn c]) ∧ w'.ownsRow w.heap.size 52 4 (.slice a mn c) (arcsHd l mn).length ((arcsHd l mn).flatMap encA) ∧ RdAt w' B R (l.drop (6 + 9 * mn)) ∧ w.grownBy w' (some R)) ∨
  (l.length < 6 + 9 * mn ∧ e = .panicked formP ∧ w.grownBy w' (some R))
set_option maxRecDepth 100000 in
set_option maxHeartbeats 800000 in
theorem stateR_any (B R : Nat) (l : List Int) (w : World) (h : RdAt w B R l) (h6 : 6 ≤ l.length) (mn : Nat) (hm : joinL ((l.drop 4).take 2) = mn) (hmn : mn < 65536) :
    Calls Tryd.prog 36 #[.pointer (some ⟨R, 0, none⟩)] w fun e w' => StRes B R l mn w e w' := by
  obtain ⟨fin, hfin⟩ : ∃ x, joinL (l.take 4) = x := ⟨_, rfl⟩
  have hRl := h.lt
  have hb0 : Below w.heap.size w (w.alloc (.cells #[.int .i64 0, .slice none 0 0] 50)) := (Below.refl _ _).alloc (Nat.le_refl _) _
  have HR0 : Hid (RdAt (w.alloc (.cells #[.int .i64 0, .slice none 0 0] 50)) B R l) := h.new hb0
  have HG0 : Hid (w.grownBy (w.alloc (.cells #[.int .i64 0, .slice none 0 0] 50)) (some R)) := gNew hb0
  have HA0 : Hid (Blk (w.alloc (.cells #[.int .i64 0, .slice none 0 0] 50)) w.heap.size #[.int .i64 0, .slice none 0 0] 50) := Blk.made w _ _
  have F1 : Hid (∀ W, RdAt W B R l → Calls Tryd.prog 28 #[.pointer (some ⟨R, 0, none⟩), .int .i64 4] W fun e w' => e = .returned (.int .i64 fin) ∧ RdAt w' B R (l.drop 4) ∧ W.grownBy w' (some R)) := fun W g => by rw [← hfin]; exact number_ok4 B R l W g (by omega)
  have F2 : Hid (∀ W, RdAt W B R (l.drop 4) → Calls Tryd.prog 28 #[.pointer (some ⟨R, 0, none⟩), .int .i64 2] W fun e w' => e = .returned (.int .i64 (mn : Int)) ∧ RdAt w' B R (l.drop 6) ∧ W.grownBy w' (some R)) := fun W g => by
    have := number_ok2 B R (l.drop 4) W g (by rw [List.length_drop]; omega)
    rw [hm, List.drop_drop] at this
    exact this
  have F3 : Hid (∀ j W, 6 + 9 * j + 9 ≤ l.length → RdAt W B R (l.drop (6 + 9 * j)) → Calls Tryd.prog 41 #[.pointer (some ⟨R, 0, none⟩)] W fun e w' => e = .returned (.agg #[.int .i64 (arcHd (l.drop (6 + 9 * j))).1, .int .i64 (arcHd (l.drop (6 + 9 * j))).2.1, .int .i64 (arcHd (l.drop (6 + 9 * j))).2.2.1, .int .i64 (arcHd (l.drop (6 + 9 * j))).2.2.2]) ∧ RdAt w' B R (l.drop (6 + 9 * (j + 1))) ∧ W.grownBy w' (some R)) := fun j W hj g => by
    have := arc_ok B R _ W g (by rw [List.length_drop]; omega)
    rw [List.drop_drop] at this
    exact this
  have F4 : Hid (∀ j W, l.length < 6 + 9 * j + 9 → RdAt W B R (l.drop (6 + 9 * j)) → Calls Tryd.prog 41 #[.pointer (some ⟨R, 0, none⟩)] W fun e w' => e = .panicked formP ∧ W.grownBy w' (some R)) := fun j W hj g => arc_no B R _ W g (by rw [List.length_drop]; omega)
  have HS : Hid (∀ j, arcsHd l (j + 1) = arcsHd l j ++ [arcHd (l.drop (6 + 9 * j))]) := fun j => arcsHd_succ l j
  have HLn : Hid (∀ j, (arcsHd l j).length = j) := fun j => arcsHd_len l j
  have HA : Hid (∀ a c w', 6 + 9 * mn ≤ l.length → w'.ownsRow w.heap.size 52 4 (.slice a mn c) (arcsHd l mn).length ((arcsHd l mn).flatMap encA) → RdAt w' B R (l.drop (6 + 9 * mn)) → w.grownBy w' (some R) → StRes B R l mn w (.returned (.agg #[.int .i64 fin, .slice a mn c])) w') := fun a c w' g1 g2 g3 g4 => .inl ⟨g1, a, c, by rw [hfin], g2, g3, g4⟩
  have HN : Hid (∀ w', l.length < 6 + 9 * mn → w.grownBy w' (some R) → StRes B R l mn w (.panicked formP) w') := fun w' g1 g2 => .inr ⟨g1, rfl, g2⟩
  clear hb0 h hm hfin
  generalize hAR : arcsHd l = AR at *
  obtain ⟨DR, hDR⟩ : ∃ DR : Nat → List Int, ∀ j, l.drop (6 + 9 * j) = DR j := ⟨_, fun _ => rfl⟩
  have hD0 : l.drop 6 = DR 0 := hDR 0
  simp only [hDR] at F3 F4 HS HA
  rw [hD0] at F2
  generalize l.drop 4 = M1 at *
  generalize l.length = n at *
  clear hAR hDR hD0
  go_enter Tryd.func36, Tryd.ntmps36
  go_wp2_with (first
    | (go_at_call 28; (with_reducible refine (F1.out _ HR0.out).mono ?_); rintro e w1 ⟨rfl, hr, hg⟩; have hs1 := hg.size; rw [World.size_alloc] at hs1; have HR1 := hid (hr.new ((Below.refl _ _).alloc (Nat.le_refl _) (.cells #[.int .i64 fin, .slice none 0 0] 50))); have HG1 := hid (gTrans (gTrans HG0.out hg) (gNew ((Below.refl _ _).alloc (Nat.le_refl _) (.cells #[.int .i64 fin, .slice none 0 0] 50)))); have HA1 := hid ((blkS HA0.out hg (by omega)).alloc (.cells #[.int .i64 fin, .slice none 0 0] 50)); have HS1 := hid (Blk.made w1 #[.int .i64 fin, .slice none 0 0] 50); clear hr hg)
    | (go_at_call 28; (with_reducible refine (F2.out _ HR1.out).mono ?_); rintro e w2 ⟨rfl, hr, hg⟩; have HR2 := hid hr; have HG2 := hid (gTrans HG1.out hg); have HA2 := hid (blkS HA1.out hg (by omega)); have HS2 := hid (blkS HS1.out hg (by omega)); clear hr hg))
  go_loopw [9] (fun s9 wr => ∃ (j : Nat) (va : Value), j ≤ mn ∧ s9 = .int .i64 j ∧ 6 + 9 * j ≤ n ∧ Hid (RdAt wr B R (DR j)) ∧ Hid (w.grownBy wr (some R)) ∧ Hid (Blk wr w.heap.size #[.int .i64 0, .slice none 0 0] 50) ∧ Hid (Blk wr w1.heap.size #[.int .i64 fin, va] 50) ∧ Hid (wr.ownsRow (w1.heap.size + 1) 52 4 va (AR j).length ((AR j).flatMap encA))) (fun s9 _ => mn - (intOf s9).toNat)
  case atStart => exact ⟨0, .slice none 0 0, Nat.zero_le _, rfl, by omega, HR2, HG2, HA2, HS2, by have e0 : AR 0 = [] := List.eq_nil_of_length_eq_zero (HLn.out 0); rw [e0]; exact World.ownsRow_nil _ _ _ _⟩
  case round =>
    obtain ⟨j, va, hj, rfl, hjn, hr, hg, ha, hs, ho⟩ := hrel
    clear HR0 HG0 HA0 HR1 HG1 HA1 HS1 HR2 HG2 HA2 HS2 F1 F2
    by_cases hjm : j < mn
    · have hjm' : (j : Int) < (mn : Int) := by omega
      by_cases h9 : 6 + 9 * j + 9 ≤ n
      · have hS1 := HS.out j
        have HL1 := hid (HLn.out j)
        have F3j : Hid (∀ W, RdAt W B R (DR j) → Calls Tryd.prog 41 #[.pointer (some ⟨R, 0, none⟩)] W fun e w' => e = .returned (.agg #[.int .i64 (arcHd (DR j)).1, .int .i64 (arcHd (DR j)).2.1, .int .i64 (arcHd (DR j)).2.2.1, .int .i64 (arcHd (DR j)).2.2.2]) ∧ RdAt w' B R (DR (j + 1)) ∧ W.grownBy w' (some R)) := fun W g => F3.out j W h9 g
        obtain ⟨x, hX⟩ : ∃ x, arcHd (DR j) = x := ⟨_, rfl⟩
        rw [hX] at hS1 F3j
        obtain ⟨x0, x1, x2, x3⟩ := x
        simp only at F3j
        have HS1 := hid hS1
        clear hS1 hX F3 F4
        generalize AR j = ar at *
        obtain ⟨aa, ca, hva⟩ := own_sl ho.out
        subst hva
        have HRD : Hid (RdAt wr.drew B R (DR j)) := hr.out
        have HSD : HeldF w1.heap.size (.slice aa ar.length ca) wr.drew := ⟨hs.out.cell 1 rfl, trivial⟩
        go_wp2
        refine region_anyL (HeldF w1.heap.size (.slice aa ar.length ca)) 7 (by kernel_rfl) ?_
        refine anyL_take (i := 0) (v := ?v0_1) at0 (by kernel_rfl) (by kernel_rfl) (by kernel_rfl) (by kernel_rfl) (fun _ _ _ h => h) rfl ?y0_1 HSD ?r0_1
        case y0_1 => intro wx hx; obtain ⟨h1, h2⟩ := hx; go_simp; try (with_reducible rfl)
        simp only [Act.put, List.setIfInBounds_toArray, List.set_cons_zero, List.set_cons_succ]
        refine anyL_take (i := 1) (v := ?v1_2) (atS at0) (by kernel_rfl) (by kernel_rfl) (by kernel_rfl) (by kernel_rfl) (fun _ _ _ h => h) rfl ?y1_2 HSD ?r1_2
        case y1_2 => intro wx hx; obtain ⟨h1, h2⟩ := hx; go_simp; try (with_reducible rfl)
        simp only [Act.put, List.setIfInBounds_toArray, List.set_cons_zero, List.set_cons_succ]
        refine anyL_take (i := 2) (v := ?v2_3) (atS (atS at0)) (by kernel_rfl) (by kernel_rfl) (by kernel_rfl) (by kernel_rfl) (fun _ _ _ h => h) rfl ?y2_3 HSD ?r2_3
        case y2_3 => intro wx hx; obtain ⟨h1, h2⟩ := hx; go_simp; try (with_reducible rfl)
        simp only [Act.put, List.setIfInBounds_toArray, List.set_cons_zero, List.set_cons_succ]
        refine anyL_one (i := 3) (atS (atS (atS at0))) (by kernel_rfl) rfl (fun K hK => ?_)
        go_simp
        refine (F3j.out _ HRD.out).mono ?_
        rintro e1 w5 ⟨rfl, hr5, hg5⟩
        have HS5b : Hid (Blk w5 w1.heap.size #[.int .i64 fin, .slice aa ar.length ca] 50) := blkS (w := wr.drew) hs.out hg5 (by omega)
        have HO5 : w5.ownsRow (w1.heap.size + 1) 52 4 (.slice aa ar.length ca) ar.length (ar.flatMap encA) := own_keep (w := wr.drew) ho.out hg5 (by omega)
        have hs5 : w1.heap.size < w5.heap.size := HS5b.out.lt
        obtain ⟨a6, k6, w6, hr6, ho6, hb6⟩ := arc_push (W := w5) (base := w1.heap.size + 1) HO5 (x0, x1, x2, x3) (by have := HL1.out; omega) (by omega)
        have R6 := hid hr6
        have HO6 := hid ho6
        have HS5 : HeldF w1.heap.size (.slice aa ar.length ca) w5 := ⟨HS5b.out.cell 1 rfl, trivial⟩
        have HSA : HeldF w1.heap.size (.slice aa ar.length ca) (w5.alloc (.cells #[.int .i64 x0, .int .i64 x1, .int .i64 x2, .int .i64 x3] 52)) := ⟨(HS5b.out.alloc _).cell 1 rfl, trivial⟩
        have HS6b : Hid (Blk w6 w1.heap.size #[.int .i64 fin, .slice aa ar.length ca] 50) := HS5b.out.below hb6 (Nat.lt_succ_self _)
        have HS6 : HeldF w1.heap.size (.slice aa ar.length ca) w6 := ⟨HS6b.out.cell 1 rfl, trivial⟩
        have f6 := HS6b.out.fz 1
        have c6 := HS6b.out.cell 1 (v := .slice aa ar.length ca) rfl
        have HR6 : Hid (RdAt w6 B R (DR (j + 1))) := hr5.below hb6 (by omega)
        have HG6 : Hid (w.grownBy w6 (some R)) := gBel (gTrans hg.out (grown_drew hg5)) hb6 (by omega)
        have HA6 : Hid (Blk w6 w.heap.size #[.int .i64 0, .slice none 0 0] 50) := (blkS (w := wr.drew) ha.out hg5 (by omega)).below hb6 (by omega)
        clear hr6 ho6 hb6 HO5 hr5 hg5
        refine hK _ _ (.inr HS5) ?_
        try simp only [Act.put, List.setIfInBounds_toArray, List.set_cons_zero, List.set_cons_succ]
        refine anyL_one (i := 4) (atS (atS (atS (atS at0)))) (by kernel_rfl) rfl (fun K hK => ?_)
        go_simp
        refine hK _ _ (.inr HSA) ?_
        try simp only [Act.put, List.setIfInBounds_toArray, List.set_cons_zero, List.set_cons_succ]
        refine anyL_one (i := 5) (atS (atS (atS (atS (atS at0))))) (by kernel_rfl) rfl (fun K hK => ?_)
        refine wp_append_run (.tmp 12) (.tmp 15) 48 rfl rfl rfl R6.out ?_
        refine hK _ _ (.inr HS6) ?_
        try simp only [Act.put, List.setIfInBounds_toArray, List.set_cons_zero, List.set_cons_succ]
        refine anyL_one (i := 6) (atS (atS (atS (atS (atS (atS at0)))))) (by kernel_rfl) rfl (fun K hK => ?_)
        go_simp
        refine hK _ _ (.inr HS6) ?_
        try simp only [Act.put, List.setIfInBounds_toArray, List.set_cons_zero, List.set_cons_succ]
        refine anyL_one (i := 7) (atS (atS (atS (atS (atS (atS (atS at0))))))) (by kernel_rfl) rfl (fun K hK => ?_)
        go_simp
        refine hK _ _ (.inl rfl) (anyL_done (by kernel_rfl) (NoPanic.normal ?_))
        try simp only [Act.put, List.setIfInBounds_toArray, List.set_cons_zero, List.set_cons_succ]
        clear HSD HSA HS5 HS6
        go_wp2
        go_roundw
        case rel => exact ⟨j + 1, .slice a6 (ar.length + 1) k6, by omega, by go_num, by omega, HR6.out.set (by omega) _ _, gSt HG6.out (by omega) _ _, HA6.out.setO ⟨w1.heap.size, 1, none⟩ _ (by show _ ≠ w1.heap.size; omega), HS6b.out.set 1 _, by rw [HS1.out]; exact ownsRow_setCell_below HO6.out (a := ⟨w1.heap.size, 1, none⟩) (Nat.lt_succ_self _) _⟩
        case measure => simp [intOf]; omega
      · have F4j : Hid (∀ W, RdAt W B R (DR j) → Calls Tryd.prog 41 #[.pointer (some ⟨R, 0, none⟩)] W fun e w' => e = .panicked formP ∧ W.grownBy w' (some R)) := fun W g => F4.out j W (by omega) g
        have HNj : Hid (∀ w', w.grownBy w' (some R) → StRes B R l mn w (.panicked formP) w') := fun w' g => HN.out w' (by omega) g
        clear F3 F4 HN
        generalize AR j = ar at *
        obtain ⟨aa, ca, hva⟩ := own_sl ho.out
        subst hva
        have HRD : Hid (RdAt wr.drew B R (DR j)) := hr.out
        have HSD : HeldF w1.heap.size (.slice aa ar.length ca) wr.drew := ⟨hs.out.cell 1 rfl, trivial⟩
        go_wp2
        refine region_anyP (fun c W => c = formP ∧ w.grownBy W (some R)) (HeldF w1.heap.size (.slice aa ar.length ca)) 7 (by kernel_rfl) ?_ ?_
        · intro c a W hd hx
          obtain ⟨rfl, hx⟩ := hx
          exact ⟨hd, HNj.out _ hx⟩
        refine anyL_take (i := 0) (v := ?v0_4) at0 (by kernel_rfl) (by kernel_rfl) (by kernel_rfl) (by kernel_rfl) (fun _ _ _ h => h) rfl ?y0_4 HSD ?r0_4
        case y0_4 => intro wx hx; obtain ⟨h1, h2⟩ := hx; go_simp; try (with_reducible rfl)
        simp only [Act.put, List.setIfInBounds_toArray, List.set_cons_zero, List.set_cons_succ]
        refine anyL_take (i := 1) (v := ?v1_5) (atS at0) (by kernel_rfl) (by kernel_rfl) (by kernel_rfl) (by kernel_rfl) (fun _ _ _ h => h) rfl ?y1_5 HSD ?r1_5
        case y1_5 => intro wx hx; obtain ⟨h1, h2⟩ := hx; go_simp; try (with_reducible rfl)
        simp only [Act.put, List.setIfInBounds_toArray, List.set_cons_zero, List.set_cons_succ]
        refine anyL_take (i := 2) (v := ?v2_6) (atS (atS at0)) (by kernel_rfl) (by kernel_rfl) (by kernel_rfl) (by kernel_rfl) (fun _ _ _ h => h) rfl ?y2_6 HSD ?r2_6
        case y2_6 => intro wx hx; obtain ⟨h1, h2⟩ := hx; go_simp; try (with_reducible rfl)
        simp only [Act.put, List.setIfInBounds_toArray, List.set_cons_zero, List.set_cons_succ]
        refine anyL_one (i := 3) (atS (atS (atS at0))) (by kernel_rfl) rfl (fun K hK => ?_)
        go_simp
        refine (F4j.out _ HRD.out).mono ?_
        rintro e1 w5 ⟨rfl, hg5⟩
        exact ⟨rfl, rfl, gTrans hg.out (grown_drew hg5)⟩
    · have hjm' : ¬ (j : Int) < (mn : Int) := by omega
      obtain rfl : j = mn := by omega
      have hL1 := HLn.out j
      obtain ⟨aa, ca, hva⟩ := own_sl ho.out
      rw [hL1] at hva
      subst hva
      have s0 := hs.out.cell 0 (v := .int .i64 fin) rfl
      have s1 := hs.out.cell 1 (v := .slice aa j ca) rfl
      have a0 := ha.out.cell 0 (v := .int .i64 0) rfl
      have a1 := ha.out.cell 1 (v := .slice none 0 0) rfl
      have b0 := ha.out.fz 0
      have b1 := ha.out.fz 1
      go_wp2
      have KA := (ha.out.set 0 (.int .i64 fin)).set 1 (.slice aa j ca)
      have k0 := KA.cell 0 (v := .int .i64 fin) rfl
      have k1 := KA.cell 1 (v := .slice aa j ca) rfl
      generalize hW5 : (wr.setCell ⟨w.heap.size, 0, none⟩ (.int .i64 fin)).setCell ⟨w.heap.size, 1, none⟩ (.slice aa j ca) = W5 at *
      refine bodyPost_ret (v := .agg #[.int .i64 fin, .slice aa j ca]) (by simp [results, Tryd.results36, go_sem, k0, k1]) rfl (HA.out _ _ _ hjn ?_ ?_ ?_)
      · rw [← hW5]
        exact ownMono (ownsRow_setCell_below (ownsRow_setCell_below ho.out (a := ⟨w.heap.size, 0, none⟩) (by show w.heap.size < _; omega) _) (a := ⟨w.heap.size, 1, none⟩) (by show w.heap.size < _; omega) _) (by omega)
      · rw [← hW5]
        exact (hr.out.set (by omega) _ _).set (by omega) _ _
      · rw [← hW5]
        exact gSt (gSt hg.out (by omega) _ _) (by omega) _ _
end Go.Proofs.YtbbjpdadickilaaDoor.Wt
namespace Go.Proofs.YtbbjpdadickilaaDoor.Pl
set_option linter.unusedVariables false
theorem arcHd_seg (bd : List Int) (i : Nat) : arcHd (bd.drop i) = (joinL (seg bd i 2), joinL (seg bd (i + 2) 2), joinL (seg bd (i + 4) 4), joinL (seg bd (i + 8) 1)) := by
  unfold arcHd seg
  simp only [List.drop_drop]
theorem prs_arcs {bd : List Int} {sts : List St} {i mn : Nat} (hb : bytesB bd) (h : Prs bd sts i) (h9 : i + 6 + 9 * mn ≤ bd.length) (hm : joinL (((bd.drop i).drop 4).take 2) = mn) :
    ∀ j, j ≤ mn → PrsA bd sts (joinL ((bd.drop i).take 4)) mn (arcsHd (bd.drop i) j) (i + 6 + 9 * j)
  | 0, _ => by
    have := PrsA.start hb h (by omega) (by rw [← hm]; unfold seg; rw [List.drop_drop]) h9
    exact this
  | j + 1, hj => by
    have h1 := prs_arcs hb h h9 hm j (by omega)
    have h2 := PrsA.step hb h1 (by rw [arcsHd_len]; omega)
    rw [arcsHd_succ, List.drop_drop, arcHd_seg, ← Nat.add_assoc]
    exact h2
theorem prs_state {bd : List Int} {sts : List St} {i mn : Nat} (hb : bytesB bd) (h : Prs bd sts i) (h9 : i + 6 + 9 * mn ≤ bd.length) (hm : joinL (((bd.drop i).drop 4).take 2) = mn) :
    Prs bd (sts ++ [(joinL ((bd.drop i).take 4), arcsHd (bd.drop i) mn)]) (i + (6 + 9 * mn)) := by
  have h1 := (prs_arcs hb h h9 hm mn (Nat.le_refl _)).done (arcsHd_len _ _)
  rw [← Nat.add_assoc]
  exact h1
end Go.Proofs.YtbbjpdadickilaaDoor.Pl
namespace Go.Proofs.YtbbjpdadickilaaDoor.Wt
open Go.ChangeShapes Go.WideShapes Go.ChangeAt Go.RowKit
open Go.Proofs.YtbbjpdadickilaaDoor.Pl
set_option linter.unusedVariables false
set_option linter.unusedSimpArgs false
set_option maxRecDepth 100000 in
theorem state_no0 (B R : Nat) (l : List Int) (w : World) (h : RdAt w B R l) (hk : 0 ≤ l.length) (hk2 : l.length < 4) :
    Calls Tryd.prog 36 #[.pointer (some ⟨R, 0, none⟩)] w fun e w' => e = .panicked formP ∧ w.grownBy w' (some R) := by
  have hRl := h.lt
  have hb0 : Below w.heap.size w (w.alloc (.cells #[.int .i64 0, .slice none 0 0] 50)) := (Below.refl _ _).alloc (Nat.le_refl _) _
  have HR0 : Hid (RdAt (w.alloc (.cells #[.int .i64 0, .slice none 0 0] 50)) B R l) := h.new hb0
  have HG0 : Hid (w.grownBy (w.alloc (.cells #[.int .i64 0, .slice none 0 0] 50)) (some R)) := gNew hb0
  have FN : Hid (∀ W, RdAt W B R l → Calls Tryd.prog 28 #[.pointer (some ⟨R, 0, none⟩), .int .i64 4] W fun e w' => e = .panicked formP ∧ W = w') := fun W g => number_no4 B R _ W g hk2
  clear h hb0
  go_enter Tryd.func36, Tryd.ntmps36
  go_wp2_with (first
    | (go_at_call 28; (with_reducible refine (FN.out _ HR0.out).mono ?_); rintro e wn ⟨rfl, rfl⟩))
  exact ⟨rfl, rfl, HG0.out⟩
set_option maxRecDepth 100000 in
theorem state_no1 (B R : Nat) (l : List Int) (w : World) (h : RdAt w B R l) (hk : 4 ≤ l.length) (hk2 : l.length < 6) :
    Calls Tryd.prog 36 #[.pointer (some ⟨R, 0, none⟩)] w fun e w' => e = .panicked formP ∧ w.grownBy w' (some R) := by
  have hRl := h.lt
  have hb0 : Below w.heap.size w (w.alloc (.cells #[.int .i64 0, .slice none 0 0] 50)) := (Below.refl _ _).alloc (Nat.le_refl _) _
  have HR0 : Hid (RdAt (w.alloc (.cells #[.int .i64 0, .slice none 0 0] 50)) B R l) := h.new hb0
  have HG0 : Hid (w.grownBy (w.alloc (.cells #[.int .i64 0, .slice none 0 0] 50)) (some R)) := gNew hb0
  obtain ⟨fin, hfin⟩ : ∃ x, joinL (l.take 4) = x := ⟨_, rfl⟩
  have F1 : Hid (∀ W, RdAt W B R l → Calls Tryd.prog 28 #[.pointer (some ⟨R, 0, none⟩), .int .i64 4] W fun e w' => e = .returned (.int .i64 fin) ∧ RdAt w' B R (l.drop 4) ∧ W.grownBy w' (some R)) := fun W g => by rw [← hfin]; exact number_ok4 B R l W g (by omega)
  have FN : Hid (∀ W, RdAt W B R (l.drop 4) → Calls Tryd.prog 28 #[.pointer (some ⟨R, 0, none⟩), .int .i64 2] W fun e w' => e = .panicked formP ∧ W = w') := fun W g => number_no2 B R _ W g (by rw [List.length_drop]; omega)
  clear h hb0 hfin
  generalize l.drop 4 = M1 at *
  go_enter Tryd.func36, Tryd.ntmps36
  go_wp2_with (first
    | (go_at_call 28; (with_reducible refine (F1.out _ HR0.out).mono ?_); rintro e w1 ⟨rfl, hr, hg⟩; have HR1 := hid (hr.new ((Below.refl _ _).alloc (Nat.le_refl _) (.cells #[.int .i64 fin, .slice none 0 0] 50))); have HG1 := hid (gTrans (gTrans HG0.out hg) (gNew ((Below.refl _ _).alloc (Nat.le_refl _) (.cells #[.int .i64 fin, .slice none 0 0] 50)))); clear hr hg)
    | (go_at_call 28; (with_reducible refine (FN.out _ HR1.out).mono ?_); rintro e wn ⟨rfl, rfl⟩))
  exact ⟨rfl, rfl, HG1.out⟩
theorem state_no (B R : Nat) (l : List Int) (w : World) (h : RdAt w B R l) (hk : l.length < 6) :
    Calls Tryd.prog 36 #[.pointer (some ⟨R, 0, none⟩)] w fun e w' => e = .panicked formP ∧ w.grownBy w' (some R) := by
  by_cases h4 : l.length < 4
  · exact state_no0 B R l w h (by omega) h4
  · exact state_no1 B R l w h (by omega) hk
theorem OwnSts.keepR {w w' : World} {base R : Nat} {v : Value} {l : List St} (h : OwnSts w base v l) (hg : w.grownBy w' (some R)) (hR : R < base) : OwnSts w' base v l := by
  obtain ⟨vs, h1, h2, h3⟩ := h
  exact ⟨vs, own_keep h1 hg hR, h2, fun j hj => ⟨(h3 j hj).1, own_keep (h3 j hj).2 hg hR⟩⟩
/-- What comes of a machine: its states stand in the bytes, or no machine has these bytes and the reader gives up. -/
def MaRes (B R : Nat) (bd : List Int) (w : World) (e : Ending) (w' : World) : Prop :=
  (∃ (sts : List St) (i : Nat) (a : Option Addr) (c : Nat), e = .returned (.agg #[.int .i64 (el bd 2 - 1), .slice a sts.length c]) ∧ OwnSts w' w.heap.size (.slice a sts.length c) sts ∧ Prs bd sts i ∧ (sts.length : Int) = el bd 1 ∧ RdAt w' B R (bd.drop i) ∧ w.grownBy w' (some R)) ∨
  (e = .panicked formP ∧ (∀ r, faultM r = 0 → packB r ≠ bd) ∧ w.grownBy w' (some R))
theorem take_one {l : List Int} {i : Nat} (h : i < l.length) : joinL ((l.drop i).take 1) = el l i := by
  have h1 : (l.drop i).take 1 = [el l i] := by
    rw [List.drop_eq_getElem_cons h, List.take_succ_cons, List.take_zero, el_get h]
  rw [h1]
  show 256 * 0 + el l i = el l i
  omega
set_option maxRecDepth 100000 in
set_option maxHeartbeats 1600000 in
theorem machine_read (B R : Nat) (bd : List Int) (w : World) (h : RdAt w B R (bd.drop 1)) (hbb : bytesB bd) (h3 : 3 ≤ bd.length) (hl : bd.length ≤ 8000) :
    Calls Tryd.prog 29 #[.pointer (some ⟨R, 0, none⟩)] w fun e w' => MaRes B R bd w e w' := by
  have hRl := h.lt
  have t1 : joinL ((bd.drop 1).take 1) = el bd 1 := take_one (by omega)
  have t2 : joinL ((bd.drop 2).take 1) = el bd 2 := take_one (by omega)
  have y1b := hbb (el bd 1) (el_mem (by omega))
  have y2b := hbb (el bd 2) (el_mem (by omega))
  have hb0 : Below w.heap.size w (w.alloc (.cells #[.int .i64 0, .slice none 0 0] 24)) := (Below.refl _ _).alloc (Nat.le_refl _) _
  have HR0 : Hid (RdAt (w.alloc (.cells #[.int .i64 0, .slice none 0 0] 24)) B R (bd.drop 1)) := h.new hb0
  have HG0 : Hid (w.grownBy (w.alloc (.cells #[.int .i64 0, .slice none 0 0] 24)) (some R)) := gNew hb0
  have HA0 : Hid (Blk (w.alloc (.cells #[.int .i64 0, .slice none 0 0] 24)) w.heap.size #[.int .i64 0, .slice none 0 0] 24) := Blk.made w _ _
  have F1 : Hid (∀ W, RdAt W B R (bd.drop 1) → Calls Tryd.prog 28 #[.pointer (some ⟨R, 0, none⟩), .int .i64 1] W fun e w' => e = .returned (.int .i64 (el bd 1)) ∧ RdAt w' B R (bd.drop 2) ∧ W.grownBy w' (some R)) := fun W g => by
    have := number_ok1 B R (bd.drop 1) W g (by rw [List.length_drop]; omega)
    rw [t1, List.drop_drop] at this
    exact this
  have F2 : Hid (∀ W, RdAt W B R (bd.drop 2) → Calls Tryd.prog 28 #[.pointer (some ⟨R, 0, none⟩), .int .i64 1] W fun e w' => e = .returned (.int .i64 (el bd 2)) ∧ RdAt w' B R (bd.drop 3) ∧ W.grownBy w' (some R)) := fun W g => by
    have := number_ok1 B R (bd.drop 2) W g (by rw [List.length_drop]; omega)
    rw [t2, List.drop_drop] at this
    exact this
  have HBB : Hid (bytesB bd) := hbb
  have HP0 : Hid (Prs bd [] 3) := Prs.start h3
  have HA : Hid (∀ (sts : List St) (i : Nat) (a : Option Addr) (c : Nat) (w' : World), OwnSts w' w.heap.size (.slice a sts.length c) sts → Prs bd sts i → (sts.length : Int) = el bd 1 → RdAt w' B R (bd.drop i) → w.grownBy w' (some R) → MaRes B R bd w (.returned (.agg #[.int .i64 (el bd 2 - 1), .slice a sts.length c])) w') := fun sts i a c w' g1 g2 g3 g4 g5 => .inl ⟨sts, i, a, c, rfl, g1, g2, g3, g4, g5⟩
  have HN : Hid (∀ w', (∀ r, faultM r = 0 → packB r ≠ bd) → w.grownBy w' (some R) → MaRes B R bd w (.panicked formP) w') := fun w' g1 g2 => .inr ⟨rfl, g1, g2⟩
  have HNR : Hid (∀ (sts : List St) (i : Nat), Prs bd sts i → (sts.length : Int) < el bd 1 → bd.length < i + 6 → ∀ r, faultM r = 0 → packB r ≠ bd) := fun sts i hp hq h6 => no_room hp hq h6
  have HNA : Hid (∀ (sts : List St) (i many : Nat), Prs bd sts i → (sts.length : Int) < el bd 1 → i + 6 ≤ bd.length → joinL (((bd.drop i).drop 4).take 2) = many → bd.length < i + 6 + 9 * many → ∀ r, faultM r = 0 → packB r ≠ bd) := fun sts i many hp hq h6 hm h9 => no_arcs hp hq h6 (by rw [← hm]; unfold seg; rw [List.drop_drop]) h9
  have HPS : Hid (∀ (sts : List St) (i mn : Nat), Prs bd sts i → i + 6 + 9 * mn ≤ bd.length → joinL (((bd.drop i).drop 4).take 2) = mn → Prs bd (sts ++ [(joinL ((bd.drop i).take 4), arcsHd (bd.drop i) mn)]) (i + (6 + 9 * mn))) := fun sts i mn hp h9 hm => prs_state HBB.out hp h9 hm
  have HPL : Hid (∀ (sts : List St) (i : Nat), Prs bd sts i → i ≤ bd.length) := fun sts i hp => hp.2.1
  clear hb0 h t1 t2 hbb
  generalize el bd 1 = y1 at *
  generalize el bd 2 = y2 at *
  have u1 : IntKind.i64.wrap (y2 - 1) = y2 - 1 := wrapI (by omega) (by omega)
  have HL := hid hl
  go_enter Tryd.func29, Tryd.ntmps29
  go_wp2_with (first
    | (go_at_call 28; (with_reducible refine (F1.out _ HR0.out).mono ?_); rintro e w0 ⟨rfl, hr, hg⟩; have hs0 := hg.size; rw [World.size_alloc] at hs0; have HR1 := hid hr; have HG1 := hid (gTrans HG0.out hg); have HA1 := hid (blkS HA0.out hg (by omega)); clear hr hg)
    | (go_at_call 28; (with_reducible refine (F2.out _ HR1.out).mono ?_); rintro e w1 ⟨rfl, hr, hg⟩; have hs1 := hg.size; have HR2 := hid (hr.new ((Below.refl _ _).alloc (Nat.le_refl _) (.cells #[.int .i64 (y2 - 1), .slice none 0 0] 24))); have HG2 := hid (gTrans (gTrans HG1.out hg) (gNew ((Below.refl _ _).alloc (Nat.le_refl _) (.cells #[.int .i64 (y2 - 1), .slice none 0 0] 24)))); have HA2 := hid ((blkS HA1.out hg (by omega)).alloc (.cells #[.int .i64 (y2 - 1), .slice none 0 0] 24)); have HS2 := hid (Blk.made w1 #[.int .i64 (y2 - 1), .slice none 0 0] 24); clear hr hg))
  go_loopw [12] (fun s12 wr => ∃ (sts : List St) (i : Nat) (vs : Value), s12 = .int .i64 sts.length ∧ (sts.length : Int) ≤ y1 ∧ Hid (Prs bd sts i) ∧ Hid (RdAt wr B R (bd.drop i)) ∧ Hid (w.grownBy wr (some R)) ∧ Hid (Blk wr w.heap.size #[.int .i64 0, .slice none 0 0] 24) ∧ Hid (Blk wr w1.heap.size #[.int .i64 (y2 - 1), vs] 24) ∧ Hid (OwnSts wr (w1.heap.size + 1) vs sts)) (fun s12 _ => (y1 - intOf s12).toNat)
  case atStart => exact ⟨[], 3, .slice none 0 0, rfl, by simp; omega, HP0, HR2, HG2, HA2, HS2, OwnSts.nil _ _⟩
  case round =>
    obtain ⟨sts, i, vs, rfl, hle, hp, hr, hg, ha, hs, ho⟩ := hrel
    clear HR0 HG0 HA0 HR1 HG1 HA1 HR2 HG2 HA2 HS2 F1 F2 HP0
    obtain ⟨av, cv, hvs⟩ := ho.out.sts.sl
    subst hvs
    have hil := HPL.out sts i hp.out
    have HRD : Hid (RdAt wr.drew B R (bd.drop i)) := hr.out
    have HSD : HeldF w1.heap.size (.slice av sts.length cv) wr.drew := ⟨hs.out.cell 1 rfl, trivial⟩
    have hdl : (bd.drop i).length = bd.length - i := List.length_drop
    by_cases hlt : (sts.length : Int) < y1
    · by_cases h6 : i + 6 ≤ bd.length
      · have hbi : bytesB (bd.drop i) := bytes_drop HBB.out i
        have hr2 := join_range2 (x := ((bd.drop i).drop 4).take 2) (bytes_take (bytes_drop hbi 4) 2) (by rw [List.length_take, List.length_drop]; omega)
        obtain ⟨mn, hmn⟩ : ∃ mn : Nat, joinL (((bd.drop i).drop 4).take 2) = (mn : Int) := ⟨(joinL (((bd.drop i).drop 4).take 2)).toNat, by omega⟩
        by_cases h9 : i + 6 + 9 * mn ≤ bd.length
        · have HPN : Hid (Prs bd (sts ++ [(joinL ((bd.drop i).take 4), arcsHd (bd.drop i) mn)]) (i + (6 + 9 * mn))) := HPS.out sts i mn hp.out h9 hmn
          have FS : Hid (∀ W, RdAt W B R (bd.drop i) → Calls Tryd.prog 36 #[.pointer (some ⟨R, 0, none⟩)] W fun e w' => ∃ a c, e = .returned (.agg #[.int .i64 (joinL ((bd.drop i).take 4)), .slice a mn c]) ∧ w'.ownsRow W.heap.size 52 4 (.slice a mn c) (arcsHd (bd.drop i) mn).length ((arcsHd (bd.drop i) mn).flatMap encA) ∧ RdAt w' B R (bd.drop (i + (6 + 9 * mn))) ∧ W.grownBy w' (some R)) := fun W g => by
            refine (stateR_any B R _ W g (by omega) mn hmn (by omega)).mono ?_
            rintro e w' (⟨_, a, c, h1, h2, h3, h4⟩ | ⟨h1, _⟩)
            · rw [List.drop_drop] at h3
              exact ⟨a, c, h1, h2, h3, h4⟩
            · omega
          have hsl : sts.length ≤ 255 := by omega
          clear hdl hbi hr2 hmn
          generalize joinL ((bd.drop i).take 4) = fin at *
          generalize arcsHd (bd.drop i) mn = ar at *
          generalize i + (6 + 9 * mn) = i2 at *
          go_wp2
          refine region_anyL (HeldF w1.heap.size (.slice av sts.length cv)) 7 (by kernel_rfl) ?_
          refine anyL_take (i := 0) (v := ?v0_7) at0 (by kernel_rfl) (by kernel_rfl) (by kernel_rfl) (by kernel_rfl) (fun _ _ _ h => h) rfl ?y0_7 HSD ?r0_7
          case y0_7 => intro wx hx; obtain ⟨h1, h2⟩ := hx; go_simp; try (with_reducible rfl)
          simp only [Act.put, List.setIfInBounds_toArray, List.set_cons_zero, List.set_cons_succ]
          refine anyL_take (i := 1) (v := ?v1_8) (atS at0) (by kernel_rfl) (by kernel_rfl) (by kernel_rfl) (by kernel_rfl) (fun _ _ _ h => h) rfl ?y1_8 HSD ?r1_8
          case y1_8 => intro wx hx; obtain ⟨h1, h2⟩ := hx; go_simp; try (with_reducible rfl)
          simp only [Act.put, List.setIfInBounds_toArray, List.set_cons_zero, List.set_cons_succ]
          refine anyL_take (i := 2) (v := ?v2_9) (atS (atS at0)) (by kernel_rfl) (by kernel_rfl) (by kernel_rfl) (by kernel_rfl) (fun _ _ _ h => h) rfl ?y2_9 HSD ?r2_9
          case y2_9 => intro wx hx; obtain ⟨h1, h2⟩ := hx; go_simp; try (with_reducible rfl)
          simp only [Act.put, List.setIfInBounds_toArray, List.set_cons_zero, List.set_cons_succ]
          refine anyL_one (i := 3) (atS (atS (atS at0))) (by kernel_rfl) rfl (fun K hK => ?_)
          go_simp
          refine (FS.out _ HRD.out).mono ?_
          rintro e1 w5 ⟨aa, ca, rfl, ho5, hr5, hg5⟩
          have HS5b : Hid (Blk w5 w1.heap.size #[.int .i64 (y2 - 1), .slice av sts.length cv] 24) := blkS (w := wr.drew) hs.out hg5 (by omega)
          have HT5 : OwnSts w5 (w1.heap.size + 1) (.slice av sts.length cv) sts := OwnSts.keepR (w := wr.drew) ho.out hg5 (by omega)
          have hs5 : w1.heap.size < w5.heap.size := HS5b.out.lt
          have hsr : w1.heap.size < wr.heap.size := hs.out.lt
          obtain ⟨v6, w6, hr6, ho6, hb6⟩ := run_push (W := w5.alloc (.cells #[.int .i64 fin, .slice aa mn ca] 50)) (w1 := w5) (fin, ar) sts (.slice aa mn ca) (.slice av sts.length cv) (w1.heap.size + 1) rfl rfl rfl rfl HT5 (ownMono ho5 (by show _ ≤ wr.heap.size; omega)) (by omega) (by omega)
          obtain ⟨a6, c6, hv6⟩ := ho6.sts.sl
          rw [show (sts ++ [(fin, ar)]).length = sts.length + 1 from by simp] at hv6
          subst hv6
          have R6 := hid hr6
          have HO6 := hid ho6
          have HS5 : HeldF w1.heap.size (.slice av sts.length cv) w5 := ⟨HS5b.out.cell 1 rfl, trivial⟩
          have HSA : HeldF w1.heap.size (.slice av sts.length cv) (w5.alloc (.cells #[.int .i64 fin, .slice aa mn ca] 50)) := ⟨(HS5b.out.alloc _).cell 1 rfl, trivial⟩
          have HS6b : Hid (Blk w6 w1.heap.size #[.int .i64 (y2 - 1), .slice av sts.length cv] 24) := HS5b.out.below hb6 (Nat.lt_succ_self _)
          have HS6 : HeldF w1.heap.size (.slice av sts.length cv) w6 := ⟨HS6b.out.cell 1 rfl, trivial⟩
          have f6 := HS6b.out.fz 1
          have c6' := HS6b.out.cell 1 (v := .slice av sts.length cv) rfl
          have HR6 : Hid (RdAt w6 B R (bd.drop i2)) := hr5.below hb6 (by omega)
          have HG6 : Hid (w.grownBy w6 (some R)) := gBel (gTrans hg.out (grown_drew hg5)) hb6 (by omega)
          have HA6 : Hid (Blk w6 w.heap.size #[.int .i64 0, .slice none 0 0] 24) := (blkS (w := wr.drew) ha.out hg5 (by omega)).below hb6 (by omega)
          clear hr6 ho6 hb6 HT5 ho5 hr5 hg5
          refine hK _ _ (.inr HS5) ?_
          try simp only [Act.put, List.setIfInBounds_toArray, List.set_cons_zero, List.set_cons_succ]
          refine anyL_one (i := 4) (atS (atS (atS (atS at0)))) (by kernel_rfl) rfl (fun K hK => ?_)
          go_simp
          refine hK _ _ (.inr HSA) ?_
          try simp only [Act.put, List.setIfInBounds_toArray, List.set_cons_zero, List.set_cons_succ]
          refine anyL_one (i := 5) (atS (atS (atS (atS (atS at0))))) (by kernel_rfl) rfl (fun K hK => ?_)
          refine wp_append_run (.tmp 15) (.tmp 18) 22 rfl rfl rfl R6.out ?_
          refine hK _ _ (.inr HS6) ?_
          try simp only [Act.put, List.setIfInBounds_toArray, List.set_cons_zero, List.set_cons_succ]
          refine anyL_one (i := 6) (atS (atS (atS (atS (atS (atS at0)))))) (by kernel_rfl) rfl (fun K hK => ?_)
          go_simp
          refine hK _ _ (.inr HS6) ?_
          try simp only [Act.put, List.setIfInBounds_toArray, List.set_cons_zero, List.set_cons_succ]
          refine anyL_one (i := 7) (atS (atS (atS (atS (atS (atS (atS at0))))))) (by kernel_rfl) rfl (fun K hK => ?_)
          go_simp
          refine hK _ _ (.inl rfl) (anyL_done (by kernel_rfl) (NoPanic.normal ?_))
          try simp only [Act.put, List.setIfInBounds_toArray, List.set_cons_zero, List.set_cons_succ]
          clear HSD HSA HS5 HS6
          go_wp2
          go_roundw
          case rel => exact ⟨sts ++ [(fin, ar)], i2, .slice a6 (sts.length + 1) c6, by simp, by simp; omega, HPN, HR6.out.set (by omega) _ _, gSt HG6.out (by omega) _ _, HA6.out.setO ⟨w1.heap.size, 1, none⟩ _ (by show _ ≠ w1.heap.size; omega), HS6b.out.set 1 _, HO6.out.setCell (a := ⟨w1.heap.size, 1, none⟩) (Nat.lt_succ_self _) _⟩
          case measure => simp [intOf]; omega
        · have HNj : Hid (∀ w', w.grownBy w' (some R) → MaRes B R bd w (.panicked formP) w') := fun w' g => HN.out w' (HNA.out sts i mn hp.out hlt h6 hmn (by omega)) g
          have FS : Hid (∀ W, RdAt W B R (bd.drop i) → Calls Tryd.prog 36 #[.pointer (some ⟨R, 0, none⟩)] W fun e w' => e = .panicked formP ∧ W.grownBy w' (some R)) := fun W g => by
            refine (stateR_any B R _ W g (by omega) mn hmn (by omega)).mono ?_
            rintro e w' (⟨h1, _⟩ | ⟨_, h1, h2⟩)
            · omega
            · exact ⟨h1, h2⟩
          clear hdl hbi hr2 hmn
          go_wp2
          refine region_anyP (fun c W => c = formP ∧ w.grownBy W (some R)) (HeldF w1.heap.size (.slice av sts.length cv)) 7 (by kernel_rfl) ?_ ?_
          · intro c a W hd hx
            obtain ⟨rfl, hx⟩ := hx
            exact ⟨hd, HNj.out _ hx⟩
          refine anyL_take (i := 0) (v := ?v0_10) at0 (by kernel_rfl) (by kernel_rfl) (by kernel_rfl) (by kernel_rfl) (fun _ _ _ h => h) rfl ?y0_10 HSD ?r0_10
          case y0_10 => intro wx hx; obtain ⟨h1, h2⟩ := hx; go_simp; try (with_reducible rfl)
          simp only [Act.put, List.setIfInBounds_toArray, List.set_cons_zero, List.set_cons_succ]
          refine anyL_take (i := 1) (v := ?v1_11) (atS at0) (by kernel_rfl) (by kernel_rfl) (by kernel_rfl) (by kernel_rfl) (fun _ _ _ h => h) rfl ?y1_11 HSD ?r1_11
          case y1_11 => intro wx hx; obtain ⟨h1, h2⟩ := hx; go_simp; try (with_reducible rfl)
          simp only [Act.put, List.setIfInBounds_toArray, List.set_cons_zero, List.set_cons_succ]
          refine anyL_take (i := 2) (v := ?v2_12) (atS (atS at0)) (by kernel_rfl) (by kernel_rfl) (by kernel_rfl) (by kernel_rfl) (fun _ _ _ h => h) rfl ?y2_12 HSD ?r2_12
          case y2_12 => intro wx hx; obtain ⟨h1, h2⟩ := hx; go_simp; try (with_reducible rfl)
          simp only [Act.put, List.setIfInBounds_toArray, List.set_cons_zero, List.set_cons_succ]
          refine anyL_one (i := 3) (atS (atS (atS at0))) (by kernel_rfl) rfl (fun K hK => ?_)
          go_simp
          refine (FS.out _ HRD.out).mono ?_
          rintro e1 w5 ⟨rfl, hg5⟩
          exact ⟨rfl, rfl, gTrans hg.out (grown_drew hg5)⟩
      · have HNj : Hid (∀ w', w.grownBy w' (some R) → MaRes B R bd w (.panicked formP) w') := fun w' g => HN.out w' (HNR.out sts i hp.out hlt (by omega)) g
        have FS : Hid (∀ W, RdAt W B R (bd.drop i) → Calls Tryd.prog 36 #[.pointer (some ⟨R, 0, none⟩)] W fun e w' => e = .panicked formP ∧ W.grownBy w' (some R)) := fun W g => state_no B R _ W g (by omega)
        clear hdl
        go_wp2
        refine region_anyP (fun c W => c = formP ∧ w.grownBy W (some R)) (HeldF w1.heap.size (.slice av sts.length cv)) 7 (by kernel_rfl) ?_ ?_
        · intro c a W hd hx
          obtain ⟨rfl, hx⟩ := hx
          exact ⟨hd, HNj.out _ hx⟩
        refine anyL_take (i := 0) (v := ?v0_13) at0 (by kernel_rfl) (by kernel_rfl) (by kernel_rfl) (by kernel_rfl) (fun _ _ _ h => h) rfl ?y0_13 HSD ?r0_13
        case y0_13 => intro wx hx; obtain ⟨h1, h2⟩ := hx; go_simp; try (with_reducible rfl)
        simp only [Act.put, List.setIfInBounds_toArray, List.set_cons_zero, List.set_cons_succ]
        refine anyL_take (i := 1) (v := ?v1_14) (atS at0) (by kernel_rfl) (by kernel_rfl) (by kernel_rfl) (by kernel_rfl) (fun _ _ _ h => h) rfl ?y1_14 HSD ?r1_14
        case y1_14 => intro wx hx; obtain ⟨h1, h2⟩ := hx; go_simp; try (with_reducible rfl)
        simp only [Act.put, List.setIfInBounds_toArray, List.set_cons_zero, List.set_cons_succ]
        refine anyL_take (i := 2) (v := ?v2_15) (atS (atS at0)) (by kernel_rfl) (by kernel_rfl) (by kernel_rfl) (by kernel_rfl) (fun _ _ _ h => h) rfl ?y2_15 HSD ?r2_15
        case y2_15 => intro wx hx; obtain ⟨h1, h2⟩ := hx; go_simp; try (with_reducible rfl)
        simp only [Act.put, List.setIfInBounds_toArray, List.set_cons_zero, List.set_cons_succ]
        refine anyL_one (i := 3) (atS (atS (atS at0))) (by kernel_rfl) rfl (fun K hK => ?_)
        go_simp
        refine (FS.out _ HRD.out).mono ?_
        rintro e1 w5 ⟨rfl, hg5⟩
        exact ⟨rfl, rfl, gTrans hg.out (grown_drew hg5)⟩
    · have s0 := hs.out.cell 0 (v := .int .i64 (y2 - 1)) rfl
      have s1 := hs.out.cell 1 (v := .slice av sts.length cv) rfl
      have a0 := ha.out.cell 0 (v := .int .i64 0) rfl
      have a1 := ha.out.cell 1 (v := .slice none 0 0) rfl
      have b0 := ha.out.fz 0
      have b1 := ha.out.fz 1
      have hsq : (sts.length : Int) = y1 := by omega
      have HSQ := hid hsq
      clear hsq hdl
      go_wp2
      have KA := (ha.out.set 0 (.int .i64 (y2 - 1))).set 1 (.slice av sts.length cv)
      have k0 := KA.cell 0 (v := .int .i64 (y2 - 1)) rfl
      have k1 := KA.cell 1 (v := .slice av sts.length cv) rfl
      generalize hW5 : (wr.setCell ⟨w.heap.size, 0, none⟩ (.int .i64 (y2 - 1))).setCell ⟨w.heap.size, 1, none⟩ (.slice av sts.length cv) = W5 at *
      refine bodyPost_ret (v := .agg #[.int .i64 (y2 - 1), .slice av sts.length cv]) (by simp [results, Tryd.results29, go_sem, k0, k1]) rfl (HA.out sts i _ _ _ ?_ hp.out HSQ.out ?_ ?_)
      · rw [← hW5]
        exact ((ho.out.setCell (a := ⟨w.heap.size, 0, none⟩) (by show w.heap.size < _; omega) _).setCell (a := ⟨w.heap.size, 1, none⟩) (by show w.heap.size < _; omega) _).monoB (by omega)
      · rw [← hW5]
        exact (hr.out.set (by omega) _ _).set (by omega) _ _
      · rw [← hW5]
        exact gSt (gSt hg.out (by omega) _ _) (by omega) _ _
end Go.Proofs.YtbbjpdadickilaaDoor.Wt
namespace Go.Proofs.YtbbjpdadickilaaDoor.Wt
open Go.ChangeShapes Go.WideShapes Go.ChangeAt Go.RowKit
open Go.Proofs.YtbbjpdadickilaaDoor.Pl
set_option linter.unusedVariables false
set_option linter.unusedSimpArgs false
theorem assert_err (w : World) : (Instr.typeAssert (.iface 26 (.int .i64 3)) 20 26 true).run Tryd.prog w = .ok (.tuple #[.int .i64 3, .bool true]) w := by kernel_rfl
theorem assert_nil (w : World) : (Instr.typeAssert .nilIface 20 26 true).run Tryd.prog w = .ok (.tuple #[.int .i64 0, .bool false]) w := by kernel_rfl
set_option maxRecDepth 100000 in
theorem catch_idle (p q : Addr) (w : World) :
    CallsD Tryd.prog 27 #[.pointer (some p), .pointer (some q)] .returning w fun e u' w' => e = .returned (.tuple #[]) ∧ u' = .returning ∧ w' = w := by
  refine callsD_of_wpS Tryd.func27 rfl fun c₀ cs hu => ?_
  apply wpS_seq
  apply wpS_region
  simp [wpOpsS, go_sem, recoverD, hu, Tryd.ntmps27, Exit.thenS, assert_nil]
  apply wpS_seq
  apply wpS_region
  simp [wpOpsS, go_sem, Exit.thenS]
  refine wpS_cond (t := false) (by simp [Act.eval, Array.replicate]) ?_
  simp only [Bool.false_eq_true, if_false]
  refine wpS_of_wp (wp_skip ?_)
  cases c₀
  simp_all [bodyPostS, results, Tryd.results27]
set_option maxRecDepth 100000 in
theorem catch_panicking (M E : Nat) (x0 x1 y0 : Value) (older : List PanicEntry) (w : World) (hM : Blk w M #[x0, x1] 24) (hE : Blk w E #[y0] 26) (hne : E ≠ M) :
    CallsD Tryd.prog 27 #[.pointer (some ⟨M, 0, none⟩), .pointer (some ⟨E, 0, none⟩)] (.panicking ({ v := .iface 26 (.int .i64 3), recovered := false } :: older)) w fun e u' w' =>
      e = .returned (.tuple #[]) ∧ u' = .panicking ({ v := .iface 26 (.int .i64 3), recovered := true } :: older) ∧ w' = ((w.setCell ⟨M, 0, none⟩ (.int .i64 0)).setCell ⟨M, 1, none⟩ (.slice none 0 0)).setCell ⟨E, 0, none⟩ (.int .i64 3) := by
  have c0 := hM.cell 0 (v := x0) rfl
  have c1 := hM.cell 1 (v := x1) rfl
  have f0 := hM.fz 0
  have f1 := hM.fz 1
  have d0 := hE.cell 0 (v := y0) rfl
  have g0 := hE.fz 0
  have d1 := (hE.setO ⟨M, 0, none⟩ (.int .i64 0) hne).cell 0 (v := y0) rfl
  have d2 := ((hE.setO ⟨M, 0, none⟩ (.int .i64 0) hne).setO ⟨M, 1, none⟩ (.slice none 0 0) hne).cell 0 (v := y0) rfl
  refine callsD_of_wpS Tryd.func27 rfl fun c₀ cs hu => ?_
  apply wpS_seq
  apply wpS_region
  simp [wpOpsS, go_sem, recoverD, hu, Tryd.ntmps27, Exit.thenS, assert_err]
  apply wpS_seq
  apply wpS_region
  simp [wpOpsS, go_sem, Exit.thenS]
  refine wpS_cond (t := true) (by simp [Act.eval, Array.replicate]) ?_
  simp only [if_true]
  apply wpS_region
  simp [wpOpsS, go_sem, c0, c1, f0, f1, d0, d1, d2, g0, bodyPostS, results, Tryd.results27]
/-- What comes of bytes without their sum. -/
def MoAns (bd : List Int) (w : World) (e : Ending) (w' : World) : Prop := ∃ (a : Option Addr) (c : Nat) (m : Mc) (ec : Int), e = .returned (.tuple #[.agg #[.int .i64 m.1, .slice a m.2.length c], .int .i64 ec]) ∧ OwnSts w' w.heap.size (.slice a m.2.length c) m.2 ∧ okM m ∧ ((ec = 0 ∧ packB m = bd ∧ ∀ r, faultM r = 0 → packB r = bd → r = m) ∨ (ec = 3 ∧ m = (0, []) ∧ ∀ r, faultM r = 0 → packB r ≠ bd)) ∧ Below w.heap.size w w'
theorem MoAns.none {bd : List Int} {w w' : World} (h : ∀ r, faultM r = 0 → packB r ≠ bd) (hb : Below w.heap.size w w') : MoAns bd w (.returned (.tuple #[.agg #[.int .i64 0, .slice none 0 0], .int .i64 3])) w' := ⟨Option.none, 0, (0, []), 3, rfl, OwnSts.nil _ _, ⟨by simp, fun j hj => absurd hj (by simp)⟩, .inr ⟨rfl, rfl, h⟩, hb⟩
/-- The two variables of the answer, at the end. -/
theorem res_mo (tm : Array Value) (W : World) (M E : Nat) (x0 x1 y0 : Value) (hM : Blk W M #[x0, x1] 24) (hE : Blk W E #[y0] 26) (h2 : tm.getD 2 undef = .pointer (some ⟨M, 0, none⟩)) (h3 : tm.getD 3 undef = .pointer (some ⟨E, 0, none⟩)) : (results Tryd.f15 tm).run Tryd.prog W = .ok (.tuple #[.agg #[x0, x1], y0]) W := by
  have c0 := hM.cell 0 (v := x0) rfl
  have c1 := hM.cell 1 (v := x1) rfl
  have d0 := hE.cell 0 (v := y0) rfl
  simp only [Array.getD_eq_getD_getElem?] at h2 h3
  simp [results, Tryd.results15, go_sem, h2, h3, c0, c1, d0]
theorem leave_idle {tm : Array Value} {R : Ending → World → Prop} {W : World} {M E : Nat} {x0 x1 y0 : Value} (hM : Blk W M #[x0, x1] 24) (hE : Blk W E #[y0] 26) (h2 : tm.getD 2 undef = .pointer (some ⟨M, 0, none⟩)) (h3 : tm.getD 3 undef = .pointer (some ⟨E, 0, none⟩)) (hR : R (.returned (.tuple #[.agg #[x0, x1], y0])) W) :
    bodyPostD Tryd.prog Tryd.f15 R .ret { tmps := tm, defers := [{ target := .fn (.func 27) #[.pointer (some ⟨M, 0, none⟩), .pointer (some ⟨E, 0, none⟩)], args := #[] }] } W := by
  refine leaves_cons (f := 27) (args := #[.pointer (some ⟨M, 0, none⟩), .pointer (some ⟨E, 0, none⟩)]) (by simp) (by simp [go_sem]) ?_
  refine (catch_idle _ _ _).mono ?_
  rintro e u' w'' ⟨rfl, rfl, rfl⟩
  exact ⟨_, res_mo _ _ M E x0 x1 y0 hM hE h2 h3, hR⟩
theorem leave_caught {tm : Array Value} {R : Ending → World → Prop} {W : World} {M E : Nat} {x0 x1 y0 : Value} (hM : Blk W M #[x0, x1] 24) (hE : Blk W E #[y0] 26) (hne : E ≠ M) (h2 : tm.getD 2 undef = .pointer (some ⟨M, 0, none⟩)) (h3 : tm.getD 3 undef = .pointer (some ⟨E, 0, none⟩)) (hR : R (.returned (.tuple #[.agg #[.int .i64 0, .slice none 0 0], .int .i64 3])) (((W.setCell ⟨M, 0, none⟩ (.int .i64 0)).setCell ⟨M, 1, none⟩ (.slice none 0 0)).setCell ⟨E, 0, none⟩ (.int .i64 3))) :
    bodyPostD Tryd.prog Tryd.f15 R (.panic formP) { tmps := tm, defers := [{ target := .fn (.func 27) #[.pointer (some ⟨M, 0, none⟩), .pointer (some ⟨E, 0, none⟩)], args := #[] }] } W := by
  refine leaves_cons (f := 27) (args := #[.pointer (some ⟨M, 0, none⟩), .pointer (some ⟨E, 0, none⟩)]) (by simp) (by simp [go_sem]) ?_
  refine (catch_panicking M E x0 x1 y0 [] _ hM hE hne).mono ?_
  rintro e u' w'' ⟨rfl, rfl, rfl⟩
  exact ⟨_, res_mo _ _ M E _ _ _ (((hM.set 0 (.int .i64 0)).set 1 (.slice none 0 0)).setO ⟨E, 0, none⟩ (.int .i64 3) (Ne.symm hne)) (((hE.setO ⟨M, 0, none⟩ (.int .i64 0) hne).setO ⟨M, 1, none⟩ (.slice none 0 0) hne).set 0 (.int .i64 3)) h2 h3, hR⟩
theorem three_made (w : World) (c0 c1 c2 : Array Value) (t0 t1 t2 : TypeId) : Blk (((w.alloc (.cells c0 t0)).alloc (.cells c1 t1)).alloc (.cells c2 t2)) w.heap.size c0 t0 ∧ Blk (((w.alloc (.cells c0 t0)).alloc (.cells c1 t1)).alloc (.cells c2 t2)) (w.heap.size + 1) c1 t1 ∧ Blk (((w.alloc (.cells c0 t0)).alloc (.cells c1 t1)).alloc (.cells c2 t2)) (w.heap.size + 2) c2 t2 := by
  have k1 := Blk.made (w.alloc (.cells c0 t0)) c1 t1
  have k2 := Blk.made ((w.alloc (.cells c0 t0)).alloc (.cells c1 t1)) c2 t2
  simp only [World.size_alloc] at k1 k2
  exact ⟨((Blk.made w c0 t0).alloc _).alloc _, k1.alloc _, k2⟩
theorem below_three (w : World) (o0 o1 o2 : Obj) : Below w.heap.size w (((w.alloc o0).alloc o1).alloc o2) := (((Below.refl _ _).alloc (Nat.le_refl _) _).alloc (by simp) _).alloc (by simp; omega) _
set_option maxRecDepth 100000 in
theorem machineOf_any (a : Option Addr) (c : Nat) (bd : List Int) (w : World) (h : Bys w (.slice a bd.length c) bd) (hbb : bytesB bd) (h3 : 3 ≤ bd.length) (h8 : bd.length ≤ 8000) (hc : bd.length ≤ c) :
    Calls Tryd.prog 15 #[.slice a bd.length c] w fun e w' => MoAns bd w e w' := by
  have hmf : ∀ (fn : Fn) (first cap : Array Value) (w : World), (Instr.makeFunc fn first cap).run Tryd.prog w = .ok (.func fn first cap) w := fun _ _ _ _ => rfl
  obtain ⟨n, hn⟩ : ∃ n, bd.length = n := ⟨_, rfl⟩
  obtain ⟨hM0, hE0, hR0⟩ := three_made w #[.int .i64 0, .slice none 0 0] #[.int .i64 0] #[.slice a n c] 24 26 66
  have hb0 := below_three w (.cells #[.int .i64 0, .slice none 0 0] 24) (.cells #[.int .i64 0] 26) (.cells #[.slice a n c] 66)
  have hrd : RdAt (((w.alloc (.cells #[.int .i64 0, .slice none 0 0] 24)).alloc (.cells #[.int .i64 0] 26)).alloc (.cells #[.slice a n c] 66)) w.heap.size (w.heap.size + 2) bd := by
    refine ⟨a, c, by rw [hn]; exact hR0, hc, by omega, hbb, fun j hj => ?_⟩
    obtain ⟨a', cap', hv, hg⟩ := h.get
    obtain ⟨b, off, e1, e2, e3⟩ := hg j hj
    injection hv with h4 _ _
    exact ⟨b, off, by rw [h4, e1], e2, (hb0.cell (by show b < _; exact e2)).trans e3⟩
  have F1 : Hid (Calls Tryd.prog 28 #[.pointer (some ⟨w.heap.size + 2, 0, none⟩), .int .i64 1] (((w.alloc (.cells #[.int .i64 0, .slice none 0 0] 24)).alloc (.cells #[.int .i64 0] 26)).alloc (.cells #[.slice a n c] 66)) fun e w' => e = .returned (.int .i64 (el bd 0)) ∧ RdAt w' w.heap.size (w.heap.size + 2) (bd.drop 1) ∧ ((((w.alloc (.cells #[.int .i64 0, .slice none 0 0] 24)).alloc (.cells #[.int .i64 0] 26)).alloc (.cells #[.slice a n c] 66))).grownBy w' (some (w.heap.size + 2))) := by
    have := number_ok1 _ _ bd _ hrd (by omega)
    rw [show joinL (bd.take 1) = el bd 0 from take_one (l := bd) (i := 0) (by omega)] at this
    exact this
  have HM0 := hid hM0
  have HE0 := hid hE0
  have HB0 := hid hb0
  have HFM : Hid (∀ W, RdAt W w.heap.size (w.heap.size + 2) (bd.drop 1) → Calls Tryd.prog 29 #[.pointer (some ⟨w.heap.size + 2, 0, none⟩)] W fun e w' => MaRes w.heap.size (w.heap.size + 2) bd W e w') := fun W g => machine_read _ _ bd W g hbb h3 h8
  have HGB : Hid (∀ W W', Below w.heap.size w W → W.grownBy W' (some (w.heap.size + 2)) → Below w.heap.size w W') := fun W W' g1 g2 => g1.trans (gBelow g2 (fun k hk => by injection hk; omega) g1.size)
  have HKM : Hid (∀ W W' cs, Blk W w.heap.size cs 24 → W.grownBy W' (some (w.heap.size + 2)) → Blk W' w.heap.size cs 24) := fun W W' cs g1 g2 => g1.grown g2 (by simp)
  have HKE : Hid (∀ W W' cs, Blk W (w.heap.size + 1) cs 26 → W.grownBy W' (some (w.heap.size + 2)) → Blk W' (w.heap.size + 1) cs 26) := fun W W' cs g1 g2 => g1.grown g2 (by simp)
  have HNO : Hid (∀ W', (∀ r, faultM r = 0 → packB r ≠ bd) → Below w.heap.size w W' → MoAns bd w (.returned (.tuple #[.agg #[.int .i64 0, .slice none 0 0], .int .i64 3])) W') := fun W' g1 g2 => MoAns.none g1 g2
  have H84 : Hid (el bd 0 ≠ 84 → ∀ r, faultM r = 0 → packB r ≠ bd) := fun g r hr hb => g (head_parts hb).2.1
  have HAR : Hid (∀ (sts : List St) (i : Nat), Prs bd sts i → (sts.length : Int) = el bd 1 → (∀ r, faultM r = 0 → packB r = bd → el bd 0 = 84 ∧ i = bd.length ∧ r = (el bd 2 - 1, sts)) ∧ (el bd 0 = 84 → i = bd.length → 3 ≤ bd.length → packB (el bd 2 - 1, sts) = bd)) := fun sts i hp hq => all_read hp hq
  have HOK : Hid (∀ (sts : List St) (i : Nat), Prs bd sts i → (sts.length : Int) = el bd 1 → okM (el bd 2 - 1, sts)) := fun sts i hp hq => ⟨by have := hbb (el bd 1) (el_mem (by omega)); simp only; omega, fun j hj => by
    have := (hp.2.2.2 (el sts j) (el_mem hj)).2.1
    simp only
    omega⟩
  rw [hn]
  clear hM0 hE0 hR0 hb0 hrd h hbb
  by_cases h84 : el bd 0 = 84
  · have e84 : (el bd 0 != 84) = false := by simpa using h84
    go_enter_defers Tryd.func15, Tryd.ntmps15
    go_wp2_with (first
      | (go_at_call 28; (with_reducible refine F1.out.mono ?_); rintro e w1 ⟨rfl, hr1, hg1⟩; have HB1 := hid (HGB.out _ _ HB0.out hg1); have HM1 := hid (HKM.out _ _ _ HM0.out hg1); have HE1 := hid (HKE.out _ _ _ HE0.out hg1); have c0 := HM1.out.cell 0 (v := .int .i64 0) rfl; have c1 := HM1.out.cell 1 (v := .slice none 0 0) rfl; have f0 := HM1.out.fz 0; have f1 := HM1.out.fz 1; have d0 := HE1.out.cell 0 (v := .int .i64 0) rfl; have g0 := HE1.out.fz 0; have HR1 := hid hr1; clear hr1 hg1)
      | (go_at_call 29; (with_reducible refine (HFM.out _ HR1.out).mono ?_); rintro e w2 hres; rcases hres with ⟨sts, i, av, cv, rfl, ho, hp, hq, hr, hg⟩ | ⟨rfl, hno, hg⟩; have HB2 := hid (HGB.out _ _ HB1.out hg); have HM2 := hid ((HKM.out _ _ _ HM1.out hg).alloc (.cells #[.int .i64 (el bd 2 - 1), .slice av sts.length cv] 24)); have HE2 := hid ((HKE.out _ _ _ HE1.out hg).alloc (.cells #[.int .i64 (el bd 2 - 1), .slice av sts.length cv] 24)); have HR2 := hid (Blk.made w2 #[.int .i64 (el bd 2 - 1), .slice av sts.length cv] 24); have HO2 := hid ho; have HP2 := hid hp; have HQ2 := hid hq; obtain ⟨ar, cr, hBr, _, _, _, _⟩ := hr; have HD := hid (List.length_drop (l := bd) (i := i)); generalize (bd.drop i).length = dl at *; have r0 := (hBr.alloc (.cells #[.int .i64 (el bd 2 - 1), .slice av sts.length cv] 24)).cell 0 (v := .slice ar dl cr) rfl; have q0 := HR2.out.cell 0 (v := .int .i64 (el bd 2 - 1)) rfl; have q1 := HR2.out.cell 1 (v := .slice av sts.length cv) rfl; have c0 := HM2.out.cell 0 (v := .int .i64 0) rfl; have c1 := HM2.out.cell 1 (v := .slice none 0 0) rfl; have f0 := HM2.out.fz 0; have f1 := HM2.out.fz 1; have d0 := HE2.out.cell 0 (v := .int .i64 0) rfl; have g0 := HE2.out.fz 0; clear ho hp hq hg hBr))
    · have hdl : 0 < dl := by assumption
      have hs2 := HB2.out.size
      refine leave_idle (M := w.heap.size) (E := w.heap.size + 1) (((HM2.out.set 0 (.int .i64 0)).set 1 (.slice none 0 0)).setO ⟨w.heap.size + 1, 0, none⟩ (.int .i64 3) (by simp)) (((HE2.out.setO ⟨w.heap.size, 0, none⟩ (.int .i64 0) (by simp)).setO ⟨w.heap.size, 1, none⟩ (.slice none 0 0) (by simp)).set 0 (.int .i64 3)) rfl rfl (HNO.out _ (fun r hr hb => ?_) ?_)
      · have h1 := ((HAR.out sts i HP2.out HQ2.out).1 r hr hb).2.1
        have h2 := HD.out
        omega
      · exact (((HB2.out.alloc hs2 _).setCell (Nat.le_refl _) _).setCell (Nat.le_refl _) _).setCell (p := ⟨w.heap.size + 1, 0, none⟩) (by show _ ≤ w.heap.size + 1; omega) _
    · have hdl : dl = 0 := by omega
      have hs2 := HB2.out.size
      have hi : i = bd.length := by
        have h1 := HD.out
        have h2 := HP2.out.2.1
        omega
      have hm1 := HM1.out.lt
      have he1 := HE1.out.lt
      obtain ⟨hr1, hr2⟩ := HAR.out sts i HP2.out HQ2.out
      have hoA : OwnSts (w2.alloc (.cells #[.int .i64 (el bd 2 - 1), .slice av sts.length cv] 24)) w1.heap.size (.slice av sts.length cv) sts := HO2.out.kept (grownB ((Below.refl _ _).alloc (Nat.le_refl _) _))
      refine leave_idle (M := w.heap.size) (E := w.heap.size + 1) (((HM2.out.set 0 (.int .i64 (el bd 2 - 1))).set 1 (.slice av sts.length cv)).setO ⟨w.heap.size + 1, 0, none⟩ (.int .i64 0) (by simp)) (((HE2.out.setO ⟨w.heap.size, 0, none⟩ (.int .i64 (el bd 2 - 1)) (by simp)).setO ⟨w.heap.size, 1, none⟩ (.slice av sts.length cv) (by simp)).set 0 (.int .i64 0)) rfl rfl ?_
      refine ⟨av, cv, (el bd 2 - 1, sts), 0, rfl, (((hoA.setCell (a := ⟨w.heap.size, 0, none⟩) hm1 _).setCell (a := ⟨w.heap.size, 1, none⟩) hm1 _).setCell (a := ⟨w.heap.size + 1, 0, none⟩) he1 _).monoB (Nat.le_of_lt hm1), HOK.out sts i HP2.out HQ2.out, .inl ⟨rfl, hr2 h84 hi h3, fun r hr hb => (hr1 r hr hb).2.2⟩, ?_⟩
      exact (((HB2.out.alloc hs2 _).setCell (Nat.le_refl _) _).setCell (Nat.le_refl _) _).setCell (p := ⟨w.heap.size + 1, 0, none⟩) (by show _ ≤ w.heap.size + 1; omega) _
    · have hB2 := HGB.out _ _ HB1.out hg
      have hs2 := hB2.size
      refine leave_caught (M := w.heap.size) (E := w.heap.size + 1) (HKM.out _ _ _ HM1.out hg) (HKE.out _ _ _ HE1.out hg) (by simp) rfl rfl (HNO.out _ hno ?_)
      exact ((hB2.setCell (Nat.le_refl _) _).setCell (Nat.le_refl _) _).setCell (p := ⟨w.heap.size + 1, 0, none⟩) (by show _ ≤ w.heap.size + 1; omega) _
  · have e84 : (el bd 0 != 84) = true := bne_iff_ne.2 h84
    go_enter_defers Tryd.func15, Tryd.ntmps15
    go_wp2_with (first
      | (go_at_call 28; (with_reducible refine F1.out.mono ?_); rintro e w1 ⟨rfl, hr1, hg1⟩; have HB1 := hid (HGB.out _ _ HB0.out hg1); have HM1 := hid (HKM.out _ _ _ HM0.out hg1); have HE1 := hid (HKE.out _ _ _ HE0.out hg1); have c0 := HM1.out.cell 0 (v := .int .i64 0) rfl; have c1 := HM1.out.cell 1 (v := .slice none 0 0) rfl; have f0 := HM1.out.fz 0; have f1 := HM1.out.fz 1; have d0 := HE1.out.cell 0 (v := .int .i64 0) rfl; have g0 := HE1.out.fz 0; clear hr1 hg1))
    have hs1 := HB1.out.size
    refine leave_idle (M := w.heap.size) (E := w.heap.size + 1) (((HM1.out.set 0 (.int .i64 0)).set 1 (.slice none 0 0)).setO ⟨w.heap.size + 1, 0, none⟩ (.int .i64 3) (by simp)) (((HE1.out.setO ⟨w.heap.size, 0, none⟩ (.int .i64 0) (by simp)).setO ⟨w.heap.size, 1, none⟩ (.slice none 0 0) (by simp)).set 0 (.int .i64 3)) rfl rfl (HNO.out _ (H84.out h84) ?_)
    exact ((HB1.out.setCell (Nat.le_refl _) _).setCell (Nat.le_refl _) _).setCell (p := ⟨w.heap.size + 1, 0, none⟩) (by show _ ≤ w.heap.size + 1; omega) _
end Go.Proofs.YtbbjpdadickilaaDoor.Wt
