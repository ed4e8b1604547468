/- The program: a number out of bytes; a reader that takes bytes away. -/
import Derived.Test.YtbbjpdadickilaaBo
import Derived.Test.YtbbjpdadickilaaPlainUq
import Derived.Laws.BitsLemmas
namespace Go.Proofs.Ytbbjpdadickilaa.Pl
set_option linter.unusedVariables false
theorem or_byte {m x : Int} (h0 : 0 ≤ m) (h1 : m < 4294967296) (hx : 0 ≤ x ∧ x < 256) : bits .or .i64 (m * 256) x = 256 * m + x := by
  rw [bits_join .i64 62 (by decide) (fun n h0 h1 => by rw [IntKind.wrap_i64]; omega) 8 (m * 256) x (by omega) (by omega) (by omega) hx.1 (by omega) (by omega)]
  omega
end Go.Proofs.Ytbbjpdadickilaa.Pl
namespace Go.Proofs.Ytbbjpdadickilaa.Wt
open Go.ChangeShapes Go.WideShapes Go.ChangeAt Go.RowKit
open Go.Proofs.Ytbbjpdadickilaa.Pl
set_option linter.unusedVariables false
set_option linter.unusedSimpArgs false
set_option maxRecDepth 100000 in
theorem numberOf_any (v : Value) (l : List Int) (w : World) (h : Bys w v l) (hb : bytesB l) (hl : l.length ≤ 4) (r : Int) (hr : joinL l = r) :
    Calls Try.prog 25 #[v] w fun e w' => e = .returned (.int .i64 r) ∧ w = w' := by
  subst hr
  obtain ⟨a, cap, rfl, hc⟩ := h.get
  have HC : Hid (∀ j, j < l.length → ∃ b off, a = some ⟨b, off, none⟩ ∧ b < w.heap.size ∧ w.cell? ⟨b, off + j, none⟩ = some (.int .u8 (el l j))) := hc
  have HB : Hid (bytesB l) := hb
  have HD : Hid (∀ i, i < l.length → l.take (i + 1) = l.take i ++ [el l i]) := fun i hi => take_el hi
  have HR : Hid (∀ i, 0 ≤ joinL (l.take i) ∧ joinL (l.take i) < 4294967296) := fun i => by
    have h1 := joinL_range _ (bytes_take hb i)
    have h2 := pow256 (k := (l.take i).length) (by rw [List.length_take]; omega)
    omega
  have HE : Hid (l.take l.length = l) := List.take_length
  clear hc hb h
  generalize hn : l.length = n at *
  have HN : Hid (l.length = n) := hn
  clear hn
  go_enter Try.func25, Try.ntmps25
  go_wp2
  go_loop [3, 8] (fun x i => ∃ c : Nat, c ≤ n ∧ i = .int .i64 c ∧ x = .int .i64 (joinL (l.take c))) (fun _ i => n - (intOf i).toNat)
  case atStart => exact ⟨0, Nat.zero_le _, rfl, rfl⟩
  case round =>
    obtain ⟨c, hck, rfl, rfl⟩ := hrel
    by_cases hlt : c < n
    · obtain ⟨b, off, rfl, hbl, g⟩ := HC.out c hlt
      have hx := HB.out (el l c) (el_mem (by rw [HN.out]; exact hlt))
      have HS : Hid (joinL (l.take (c + 1)) = 256 * joinL (l.take c) + el l c) := by show _ = _; rw [HD.out c hlt, joinL_snoc]
      have b1 := HR.out c
      generalize joinL (l.take c) = m at *
      generalize el l c = x at *
      have w1 : IntKind.i64.wrap (m * 256) = m * 256 := by rw [IntKind.wrap_i64]; omega
      have w2 : IntKind.i64.wrap x = x := by rw [IntKind.wrap_i64]; omega
      have w3 := or_byte b1.1 b1.2 hx
      have hlt' : (c : Int) < (n : Int) := by omega
      go_wp2
      go_round
      case rel => exact ⟨c + 1, by omega, by go_num, by rw [HS.out]⟩
      case measure => simp [intOf]; omega
    · have hnl : ¬ (c : Int) < (n : Int) := by omega
      obtain rfl : c = n := by omega
      go_wp2
      go_ret
      exact ⟨by rw [HE.out]; rfl, rfl⟩
/-- The reader in the block R has these bytes left, which lie below the block B. -/
def RdAt (w : World) (B R : Nat) (l : List Int) : Prop := ∃ a c, Blk w R #[.slice a l.length c] 69 ∧ l.length ≤ c ∧ B ≤ R ∧ bytesB l ∧ ∀ j, j < l.length → ∃ b off, a = some ⟨b, off, none⟩ ∧ b < B ∧ w.cell? ⟨b, off + j, none⟩ = some (.int .u8 (el l j))
theorem RdAt.keep {w w' : World} {B R : Nat} {l : List Int} {row : Option Nat} (h : RdAt w B R l) (hg : w.grownBy w' row) (hne : some R ≠ row) (hlow : ∀ k, row = some k → B ≤ k) : RdAt w' B R l := by
  obtain ⟨a, c, h1, h2, h3, h4, h5⟩ := h
  refine ⟨a, c, h1.grown hg hne, h2, h3, h4, fun j hj => ?_⟩
  obtain ⟨b, off, e1, e2, e3⟩ := h5 j hj
  refine ⟨b, off, e1, e2, ?_⟩
  have hb : w'.heap[b]? = w.heap[b]? := hg.block b (World.block_lt_of_cell? _ _ e3) (fun e => by have := hlow b e.symm; omega)
  rw [← e3]
  simp only [World.cell?, hb]
theorem RdAt.new {w w' : World} {B R : Nat} {l : List Int} (h : RdAt w B R l) (hb : Below w.heap.size w w') : RdAt w' B R l := h.keep (row := none) (gNew hb) (by simp) (by simp)
theorem RdAt.lt {w : World} {B R : Nat} {l : List Int} (h : RdAt w B R l) : R < w.heap.size := by obtain ⟨a, c, h1, _⟩ := h; exact h1.lt
theorem RdAt.low {w : World} {B R : Nat} {l : List Int} (h : RdAt w B R l) : B ≤ R := by obtain ⟨a, c, _, _, h1, _⟩ := h; exact h1
theorem RdAt.byt {w : World} {B R : Nat} {l : List Int} (h : RdAt w B R l) : bytesB l := by obtain ⟨a, c, _, _, _, h1, _⟩ := h; exact h1
/-- The way out of the reader. -/
def formP : List PanicEntry := [{ v := .iface 27 (.int .i64 3), recovered := false }]
set_option maxRecDepth 100000 in
theorem number_no (B R : Nat) (l : List Int) (k : Nat) (w : World) (h : RdAt w B R l) (hk : l.length < k) (hk4 : k ≤ 4) :
    Calls Try.prog 36 #[.pointer (some ⟨R, 0, none⟩), .int .i64 (k : Int)] w fun e w' => e = .panicked formP ∧ w = w' := by
  obtain ⟨a, c, hB, hlc, hBR, hby, hc⟩ := h
  have g0 := hB.cell 0 (v := .slice a l.length c) rfl
  have hlt : (l.length : Int) < (k : Int) := by omega
  clear hc hby hB
  generalize l.length = n at *
  go_enter Try.func36, Try.ntmps36
  go_wp2
  exact ⟨rfl, rfl, rfl⟩
set_option maxRecDepth 100000 in
theorem number_ok (B R : Nat) (l : List Int) (k : Nat) (w : World) (h : RdAt w B R l) (hk : k ≤ l.length) (hk0 : 0 < k) (hk4 : k ≤ 4) :
    Calls Try.prog 36 #[.pointer (some ⟨R, 0, none⟩), .int .i64 (k : Int)] w fun e w' => e = .returned (.int .i64 (joinL (l.take k))) ∧ RdAt w' B R (l.drop k) ∧ w.grownBy w' (some R) := by
  obtain ⟨a, c, hB, hlc, hBR, hby, hc⟩ := h
  have g0 := hB.cell 0 (v := .slice a l.length c) rfl
  have f0 := hB.fz 0
  obtain ⟨b, off, hab, hb, _⟩ := hc 0 (by omega)
  subst hab
  have HC : Hid (∀ j, j < l.length → w.cell? ⟨b, off + j, none⟩ = some (.int .u8 (el l j))) := fun j hj => by
    obtain ⟨b', off', h1, _, h2⟩ := hc j hj
    simp only [Option.some.injEq, Addr.mk.injEq, and_true] at h1
    rw [h1.1, h1.2]; exact h2
  have HN : Hid (Calls Try.prog 25 #[.slice (some ⟨b, off, none⟩) k c] w fun e w' => e = .returned (.int .i64 (joinL (l.take k))) ∧ w = w') := by
    refine numberOf_any _ (l.take k) w (.inr ⟨⟨b, off, none⟩, c, by rw [List.length_take, Nat.min_eq_left hk], fun j hj i u hu => ?_⟩) (bytes_take hby k) (by rw [List.length_take]; omega) _ rfl
    rw [List.length_take] at hj
    rw [el_take (by omega)] at hu
    cases i with
    | zero =>
      simp [encU1] at hu
      subst hu
      rw [Addr.add_lit, Nat.mul_one, Nat.add_zero]
      exact HC.out j (by omega)
    | succ i => simp [encU1] at hu
  have HF : Hid (∀ a' c', (a' = some ⟨b, off + k, none⟩ ∨ l.length = k) → l.length - k ≤ c' → RdAt (w.setCell ⟨R, 0, none⟩ (.slice a' (l.length - k) c')) B R (l.drop k) ∧ w.grownBy (w.setCell ⟨R, 0, none⟩ (.slice a' (l.length - k) c')) (some R)) := fun a' c' ha' hc' => by
    refine ⟨⟨a', c', ?_, by rw [List.length_drop]; exact hc', hBR, bytes_drop hby k, fun j hj => ?_⟩, gSet w R 0 _⟩
    · rw [List.length_drop]
      exact hB.set 0 _
    · rw [List.length_drop] at hj
      rcases ha' with rfl | e
      · refine ⟨b, off + k, rfl, hb, ?_⟩
        have h1 := HC.out (k + j) (by omega)
        rw [World.cell?_setCell_other _ _ _ _ (by intro e; injection e; omega), Nat.add_assoc, h1]
        congr 2
        simp [el]
      · omega
  clear hc hby hB
  generalize hn : l.length = n at *
  have hnl : ¬ (n : Int) < (k : Int) := by omega
  have s0 : (0 : Int) ≤ (k : Int) := by omega
  have s1 : (k : Int) ≤ (c : Int) := by omega
  have s2 : (k : Int) ≤ (n : Int) := by omega
  by_cases hck : c = k
  · subst hck
    go_enter Try.func36, Try.ntmps36
    go_wp2_with (first | (go_at_call 25; (with_reducible refine HN.out.mono ?_); rintro e w1 ⟨rfl, rfl⟩))
    go_ret
    have hf := HF.out (some ⟨b, off, none⟩) 0 (.inr (by omega)) (by omega)
    rw [show n - c = 0 by omega] at hf
    exact ⟨rfl, hf⟩
  · go_enter Try.func36, Try.ntmps36
    go_wp2_with (first | (go_at_call 25; (with_reducible refine HN.out.mono ?_); rintro e w1 ⟨rfl, rfl⟩))
    go_ret
    exact ⟨rfl, HF.out (some ⟨b, off + k, none⟩) (c - k) (.inl rfl) (by omega)⟩
theorem number_ok1 (B R : Nat) (l : List Int) (w : World) (h : RdAt w B R l) (hk : 1 ≤ l.length) :
    Calls Try.prog 36 #[.pointer (some ⟨R, 0, none⟩), .int .i64 1] w fun e w' => e = .returned (.int .i64 (joinL (l.take 1))) ∧ RdAt w' B R (l.drop 1) ∧ w.grownBy w' (some R) := number_ok B R l 1 w h hk (by omega) (by omega)
theorem number_ok2 (B R : Nat) (l : List Int) (w : World) (h : RdAt w B R l) (hk : 2 ≤ l.length) :
    Calls Try.prog 36 #[.pointer (some ⟨R, 0, none⟩), .int .i64 2] w fun e w' => e = .returned (.int .i64 (joinL (l.take 2))) ∧ RdAt w' B R (l.drop 2) ∧ w.grownBy w' (some R) := number_ok B R l 2 w h hk (by omega) (by omega)
theorem number_ok4 (B R : Nat) (l : List Int) (w : World) (h : RdAt w B R l) (hk : 4 ≤ l.length) :
    Calls Try.prog 36 #[.pointer (some ⟨R, 0, none⟩), .int .i64 4] w fun e w' => e = .returned (.int .i64 (joinL (l.take 4))) ∧ RdAt w' B R (l.drop 4) ∧ w.grownBy w' (some R) := number_ok B R l 4 w h hk (by omega) (by omega)
theorem number_no1 (B R : Nat) (l : List Int) (w : World) (h : RdAt w B R l) (hk : l.length < 1) :
    Calls Try.prog 36 #[.pointer (some ⟨R, 0, none⟩), .int .i64 1] w fun e w' => e = .panicked formP ∧ w = w' := number_no B R l 1 w h hk (by omega)
theorem number_no2 (B R : Nat) (l : List Int) (w : World) (h : RdAt w B R l) (hk : l.length < 2) :
    Calls Try.prog 36 #[.pointer (some ⟨R, 0, none⟩), .int .i64 2] w fun e w' => e = .panicked formP ∧ w = w' := number_no B R l 2 w h hk (by omega)
theorem number_no4 (B R : Nat) (l : List Int) (w : World) (h : RdAt w B R l) (hk : l.length < 4) :
    Calls Try.prog 36 #[.pointer (some ⟨R, 0, none⟩), .int .i64 4] w fun e w' => e = .panicked formP ∧ w = w' := number_no B R l 4 w h hk (by omega)
theorem RdAt.set {w : World} {B R : Nat} {l : List Int} (h : RdAt w B R l) {g : Nat} (hg : R < g) (o : Nat) (v : Value) : RdAt (w.setCell ⟨g, o, none⟩ v) B R l := h.keep (gSet w g o v) (by intro e; injection e; omega) (fun k e => by injection e; have := h.low; omega)
end Go.Proofs.Ytbbjpdadickilaa.Wt
