/- arrange.arranged: each state's arcs as a function leaves them. -/
import Derived.Test.YtbiecfnhjfdkcaaAt
import Derived.Test.YtbiecfnhjfdkcaaMcV
import Derived.Test.YtbiecfnhjfdkcaaMcN
import Derived.Laws.MakeOwn
namespace Go.Proofs.Ytbiecfnhjfdkcaa.Wt
open Go.ChangeShapes Go.WideShapes Go.ChangeAt Go.RowKit
open Go.Proofs.Ytbiecfnhjfdkcaa.Pl
set_option linter.unusedVariables false
set_option linter.unusedSimpArgs false
theorem grown_of_below {w w' : World} (hb : Below w.heap.size w w') : w.grownBy w' none := ⟨hb.os, hb.tape, hb.output, hb.size, fun k hk _ => hb.block k hk⟩
theorem own_below {w w' : World} {base : Nat} {e : TypeId} {s : Nat} {v : Value} {n : Nat} {xs : List Value} (h : w.ownsRow base e s v n xs) (hb : Below w.heap.size w w') : w'.ownsRow base e s v n xs :=
  h.kept (grown_of_below hb) (by rcases v.ownBlock with _ | _ <;> simp)
theorem own_mono {w : World} {base base' : Nat} {e : TypeId} {s : Nat} {v : Value} {n : Nat} {xs : List Value} (h : w.ownsRow base e s v n xs) (hb : base' ≤ base) : w.ownsRow base' e s v n xs := by
  refine ⟨h.1, ?_⟩
  rcases h.2 with h2 | ⟨g, cap, cur, hv, hg, h3⟩
  · exact .inl h2
  · exact .inr ⟨g, cap, cur, hv, Nat.le_trans hb hg, h3⟩
/-- From block B on the later world is as the earlier one was. -/
def Agree (B : Nat) (w w' : World) : Prop := ∀ k, B ≤ k → k < w.heap.size → w'.heap[k]? = w.heap[k]?
theorem Agree.refl (B : Nat) (w : World) : Agree B w w := fun _ _ _ => rfl
theorem agree_set {B : Nat} {w : World} {a : Addr} (ha : a.block < B) (u : Value) : Agree B w (w.setCell a u) := fun k hk _ => Below.heap_setCell w a u k (by omega)
theorem Agree.trans {B : Nat} {w w' w'' : World} (h : Agree B w w') (hs : w.heap.size ≤ w'.heap.size) (k : Agree B w' w'') : Agree B w w'' := fun i hi hl => (k i hi (Nat.lt_of_lt_of_le hl hs)).trans (h i hi hl)
theorem Agree.mono {B B' : Nat} {w w' : World} (h : Agree B w w') (hB : B ≤ B') : Agree B' w w' := fun k hk hl => h k (Nat.le_trans hB hk) hl
theorem agree_below {B : Nat} {w w' : World} (hb : Below w.heap.size w w') : Agree B w w' := fun k _ hl => hb.block k hl
theorem own_agree {w w' : World} {base : Nat} {e : TypeId} {s : Nat} {v : Value} {n : Nat} {xs : List Value} (h : w.ownsRow base e s v n xs) (hg : Agree base w w') : w'.ownsRow base e s v n xs := by
  refine ⟨h.1, ?_⟩
  rcases h.2 with h2 | ⟨g, cap, cur, hv, hb, hh, h3⟩
  · exact .inl h2
  · exact .inr ⟨g, cap, cur, hv, hb, (hg g hb (lt_of_block hh)).trans hh, h3⟩
theorem blk_agree {w w' : World} {base b : Nat} {cs : Array Value} {t : TypeId} (h : Blk w b cs t) (hb : base ≤ b) (hg : Agree base w w') : Blk w' b cs t := (hg b hb h.lt).trans h
/-- The value v is the machine m, in memory from block B on alone. -/
def MachFrom (B : Nat) (w : World) (v : Value) (m : Mc) : Prop := ∀ w', Agree B w w' → Mach w' v m
theorem MachFrom.mach {B : Nat} {w : World} {v : Value} {m : Mc} (h : MachFrom B w v m) : Mach w v m := h w (Agree.refl _ _)
theorem MachFrom.set {B : Nat} {w : World} {v : Value} {m : Mc} (h : MachFrom B w v m) {a : Addr} (ha : a.block < B) (u : Value) : MachFrom B (w.setCell a u) v m := fun w' hg => h w' ((agree_set ha u).trans (by simp [World.setCell]) hg)
theorem MachFrom.mono {B B' : Nat} {w : World} {v : Value} {m : Mc} (h : MachFrom B' w v m) (hB : B ≤ B') : MachFrom B w v m := fun w' hg => h w' (hg.mono hB)
theorem MachFrom.later {B : Nat} {w w1 : World} {v : Value} {m : Mc} (h : MachFrom B w v m) (hb : Below w.heap.size w w1) : MachFrom B w1 v m := fun w' hg => h w' ((agree_below hb).trans hb.size hg)
theorem MachFrom.drew {B : Nat} {w : World} {v : Value} {m : Mc} (h : MachFrom B w v m) : MachFrom B w.drew v m := h
theorem MachFrom.sl {B : Nat} {w : World} {v : Value} {m : Mc} (h : MachFrom B w v m) : ∃ a c, v = .agg #[.int .i64 m.1, .slice a m.2.length c] := by
  obtain ⟨vs, rfl, hS⟩ := h.mach
  obtain ⟨a, c, rfl⟩ := hS.sl
  exact ⟨a, c, rfl⟩
/-- What is answered where it is right, and where it is not. -/
def resM (r : Int) (m : Mc) : Mc := if r = 0 then m else (0, [])
/-- A row of states that are made empty. -/
theorem made_states (n : Nat) : madeCells (Value.cells (.agg #[.int .i64 0, .slice none 0 0])) (n * 2) = ((List.replicate n ((0 : Int), Value.slice none 0 0)).flatMap encS).toArray := by
  apply Array.ext_getElem?
  intro t
  have hz : Value.cells (.agg #[.int .i64 0, .slice none 0 0]) = #[.int .i64 0, .slice none 0 0] := rfl
  by_cases ht : t < n * 2
  · have h2 := flat_at encS_len (List.replicate n ((0 : Int), Value.slice none 0 0)) (t / 2) (by simp; omega) (t % 2) (by omega)
    have he : t / 2 * 2 + t % 2 = t := by omega
    rw [he] at h2
    simp only [List.getElem?_toArray]
    rw [h2, el_get (by simp; omega), List.getElem_replicate]
    simp only [madeCells, hz, Array.getElem?_map]
    rw [Array.getElem?_eq_getElem (by simpa using ht)]
    have h01 : t % 2 = 0 ∨ t % 2 = 1 := by omega
    rcases h01 with h | h <;> simp [h, encS]
  · rw [Array.getElem?_eq_none (by simp [size_madeCells]; omega), List.getElem?_toArray, List.getElem?_eq_none (by rw [flat_length encS_len]; simp; omega)]
/-- One state stored. -/
theorem set_state {vs : List (Int × Value)} {k : Nat} (hk : k < vs.length) (p : Int × Value) : ((vs.flatMap encS).toArray.setIfInBounds (k * 2) (.int .i64 p.1)).setIfInBounds (k * 2 + 1) p.2 = ((vs.set k p).flatMap encS).toArray := by
  apply Array.ext_getElem?
  intro t
  have hl : (vs.flatMap encS).length = vs.length * 2 := flat_length encS_len vs
  by_cases ht : t < vs.length * 2
  · have he : t / 2 * 2 + t % 2 = t := by omega
    have h1 := flat_at encS_len vs (t / 2) (by omega) (t % 2) (by omega)
    have h2 := flat_at encS_len (vs.set k p) (t / 2) (by simp; omega) (t % 2) (by omega)
    rw [he] at h1 h2
    rw [Array.getElem?_setIfInBounds, Array.getElem?_setIfInBounds]
    simp only [List.getElem?_toArray]
    rw [h1, h2]
    simp only [Array.size_setIfInBounds, List.size_toArray, hl]
    by_cases hq : t / 2 = k
    · have hel : el (vs.set k p) (t / 2) = p := by rw [hq, el_get (by simpa using hk)]; simp
      rw [hel]
      have h01 : t = k * 2 ∨ t = k * 2 + 1 := by omega
      rcases h01 with h | h
      · have e0 : t % 2 = 0 := by omega
        rw [if_neg (by omega), if_pos h.symm, if_pos (by omega), e0]; rfl
      · have e0 : t % 2 = 1 := by omega
        rw [if_pos h.symm, if_pos (by omega), e0]; rfl
    · have hel : el (vs.set k p) (t / 2) = el vs (t / 2) := by simp [el, List.getElem?_set_ne (Ne.symm hq)]
      rw [hel, if_neg (by omega), if_neg (by omega)]
  · rw [Array.getElem?_eq_none (by simp only [Array.size_setIfInBounds, List.size_toArray, hl]; omega), List.getElem?_toArray, List.getElem?_eq_none (by rw [flat_length encS_len]; simp; omega)]
theorem el_set {α : Type} [Inhabited α] {l : List α} {k j : Nat} (hk : k < l.length) (x : α) : el (l.set k x) j = if j = k then x else el l j := by
  by_cases h : j = k
  · subst h; rw [if_pos rfl, el_get (by simpa using hk)]; simp
  · rw [if_neg h]; simp [el, List.getElem?_set_ne (Ne.symm h)]
/-- States in a block of the call's own. -/
theorem sts_block {w : World} {bs B : Nat} {vs : List (Int × Value)} {l : List St} (hb : Blk w bs (vs.flatMap encS).toArray 41) (hl : vs.length = l.length) (h : ∀ j, j < l.length → (el vs j).1 = (el l j).1 ∧ w.ownsRow B 43 4 (el vs j).2 (el l j).2.length ((el l j).2.flatMap encA)) :
    Sts w (.slice (some ⟨bs, 0, none⟩) l.length l.length) l := by
  refine ⟨vs, .inr ⟨⟨bs, 0, none⟩, l.length, by rw [hl], fun j hj i u hu => ?_⟩, hl, fun j hj => ⟨(h j hj).1, Row.ofOwn encA_len (h j hj).2 rfl⟩⟩
  have hi : i < 2 := by
    rcases Nat.lt_or_ge i 2 with h | h
    · exact h
    · rw [List.getElem?_eq_none (by rw [encS_len]; exact h)] at hu; simp at hu
  rw [Addr.add_lit, Nat.zero_add]
  refine hb.cell _ ?_
  rw [List.getElem?_toArray, flat_at encS_len vs j hj i hi]
  exact hu
def HeldR (B : Nat) (f : Int) (w : World) : Prop := w.cell? ⟨B, 0, none⟩ = some (.int .i64 f)
set_option maxRecDepth 100000 in
set_option maxHeartbeats 3200000 in
theorem arranged_ok (v : Value) (m : Mc) (w : World) (h : Mach w v m) (hok : okM m) (g : Nat) (lb : Array Value) (f : List Ar → List Ar) (eg : ∀ ar W, (callFunc g ar).run Try.prog W = .ok (.enter g ar) W) (hp : PutAt g lb f w) (hr : faultM m = 0) :
    Calls Try.prog 32 #[v, .func (.func g) #[] lb] w fun e w' => ∃ v', e = .returned (.tuple #[v', .int .i64 0]) ∧ MachFrom w.heap.size w' v' (mapM f m) ∧ Below w.heap.size w w' := by
  obtain ⟨i0, hi0, hz0, hz1, hz2⟩ := info_parts infoArc
  obtain ⟨i1, hi1, hy0, hy1, hy2⟩ := info_parts infoState
  obtain ⟨z, l⟩ := m
  obtain ⟨vs, rfl, hS⟩ := h
  obtain ⟨a, cap, rfl, hc⟩ := hS.get
  have H60 : Hid (l.length ≤ 60) := (right_size hr).1
  have HM : Hid (Mach w (.agg #[.int .i64 z, .slice a l.length cap]) (z, l)) := ⟨_, rfl, hS⟩
  have HK : Hid (okM (z, l)) := hok
  have HR : Hid (faultM (z, l) = 0) := hr
  have HP : Hid (PutAt g lb f w) := hp
  have HC : Hid (∀ j, j < l.length → ∃ b off va, a = some ⟨b, off, none⟩ ∧ b < w.heap.size ∧ w.cell? ⟨b, off + j * 2, none⟩ = some (.int .i64 (el l j).1) ∧ w.cell? ⟨b, off + j * 2 + 1, none⟩ = some va ∧ Arcs w va (el l j).2) := hc
  clear hS hc hok hr hp
  simp only
  generalize hn : l.length = n at *
  have HN : Hid (l.length = n) := hn
  clear hn
  have h60 := H60.out
  have hmk : ∀ W : World, (Instr.makeSlice 25 (.int .i64 (n : Int)) (.int .i64 (n : Int))).run Try.prog W = .ok (.slice (some ⟨W.heap.size, 0, none⟩) n n) (W.alloc (.cells ((List.replicate n ((0 : Int), Value.slice none 0 0)).flatMap encS).toArray 41)) := fun W => by
    have h := run_make (P := Try.prog) W 25 41 i1 _ Try.underlying25 hi1 hy0 .i64 .i64 n n (by omega) (by omega) (by rw [hy2]; omega) (by omega)
    rw [hy1, Int.toNat_natCast, made_states] at h
    exact h
  clear h60
  go_enter Try.func32, Try.ntmps32
  go_wp2_with (first
      | (go_at_call 21; (with_reducible refine (coreCheck_any _ (z, l) _ (HM.out.later (B := w.heap.size) (by go_grown) (Nat.le_refl _)) HK.out _ HR.out).mono ?_); rintro e w1 ⟨rfl, hb⟩; obtain ⟨s1, k0, k1, hb1⟩ := boxed2 hb (by simp); have HB1 : Hid (Below w.heap.size w w1) := hb1; have K0 : Hid (Blk w1 w.heap.size #[.int .i64 z, .slice a n cap] 27) := k0; have K1 : Hid (Blk w1 (w.heap.size + 1) #[.int .i64 0, .slice none 0 0] 27) := k1; have c1 := k0.cell 1 (v := .slice a n cap) rfl; have s2 : w.heap.size < w1.heap.size := (by omega); have s3 : w.heap.size + 1 < w1.heap.size := (by omega); clear hb hb1 k0 k1))
  have HW : Hid (w.heap.size + 2 ≤ w1.heap.size) := s1
  go_loopw [24] (fun i wr => ∃ (k : Nat) (vs : List (Int × Value)), k ≤ n ∧ i = .int .i64 k ∧ vs.length = n ∧ Hid (Blk wr w1.heap.size (vs.flatMap encS).toArray 41) ∧ Hid (∀ j, j < k → (el vs j).1 = (el l j).1 ∧ wr.ownsRow (w1.heap.size + 1) 43 4 (el vs j).2 (f (el l j).2).length ((f (el l j).2).flatMap encA)) ∧ Hid (Blk wr w.heap.size #[.int .i64 z, .slice a n cap] 27) ∧ Hid (Blk wr (w.heap.size + 1) #[.int .i64 0, .slice none 0 0] 27) ∧ Hid (Below w.heap.size w wr) ∧ w1.heap.size + 1 ≤ wr.heap.size) (fun i _ => n - (intOf i).toNat)
  case atStart => exact ⟨0, List.replicate n ((0 : Int), Value.slice none 0 0), Nat.zero_le _, rfl, by simp, Blk.made _ _ _, fun j hj => absurd hj (Nat.not_lt_zero _), K0.out.alloc _, K1.out.alloc _, HB1.out.alloc HB1.out.size _, by simp⟩
  case round =>
    obtain ⟨k, vs, hk, rfl, hvl, hbs, hold, hk0, hk1, hb, hws⟩ := hrel
    have c1 := hk0.out.cell 1 (v := .slice a n cap) rfl
    by_cases hlt : k < n
    · obtain ⟨b, off, va, rfl, hbl, g0, g1, gA⟩ := HC.out k hlt
      have g0 := (hb.out.cell (p := ⟨b, off + k * 2, none⟩) hbl).trans g0
      have g1 := (hb.out.cell (p := ⟨b, off + k * 2 + 1, none⟩) hbl).trans g1
      have GA : Hid (Arcs (wr.alloc (.cells #[.int .i64 (el l k).1, va] 41)) va (el l k).2) := (gA.later hb.out (Nat.le_refl _)).later ((Below.refl _ _).alloc (Nat.le_refl _) _) (Nat.le_refl _)
      have HLK : Hid ((el l k).2.length * 32 ≤ 140737488351232) := HK.out.2 k (by show k < l.length; rw [HN.out]; exact hlt)
      have hk0' : (0 : Int) ≤ (k : Int) := Int.natCast_nonneg _
      have hk1' : (k : Int) < (n : Int) := by omega
      obtain ⟨a2, cap2, hva⟩ := GA.out.sl
      subst hva
      clear gA
      go_wp2_with (first
        | (at_builtin; refine wpList_append_rows encA_len (by decide) encA_one rfl _ _ 39 rfl (wr.heap.size + 1) 43 i0 _ 32 Try.underlying39 hi0 hz0 hz1 hz2 rfl (.slice none 0 0) 0 [] rfl (World.ownsRow_nil _ _ _ _) _ (el l k).2 rfl GA.out (by have := HLK.out; unfold maxLen; omega) (by have := HLK.out; omega) (by simp) ?_; intro v1 w2 ho1 hg1))
      have ho1' := own_zero ho1
      obtain ⟨a1, cp1, rfl⟩ := own_sl ho1'
      have B1 : Below (wr.heap.size + 1) (wr.alloc (.cells #[.int .i64 (el l k).1, .slice a2 (el l k).2.length cap2] 41)) w2 := below_new (by simp) hg1
      have B1' : Below wr.heap.size wr w2 := ((Below.refl _ _).alloc (Nat.le_refl _) _).trans (B1.mono (by omega))
      have HCC := HP.out w2.drew (wr.heap.size + 1) _ (el l k).2 ((hb.out.trans (B1'.mono hb.out.size)).drew) (by have := hb.out.size; omega) ho1' HLK.out
      have HB0 := (Blk.made wr #[.int .i64 (el l k).1, .slice a2 (el l k).2.length cap2] 41).below B1 (Nat.lt_succ_self _)
      have HS : HeldR wr.heap.size (el l k).1 w2.drew := HB0.cell 0 rfl
      refine region_anyL (HeldR wr.heap.size (el l k).1) 9 (by kernel_rfl) ?_
      refine anyL_take (i := 0) (v := ?v0_1) at0 (by kernel_rfl) (by kernel_rfl) (by kernel_rfl) (by kernel_rfl) (fun _ _ _ h => h) rfl ?y0_1 HS ?r0_1
      case y0_1 => intro wx hx; have h1 : wx.cell? ⟨wr.heap.size, 0, none⟩ = some (.int .i64 (el l k).1) := hx; go_simp; try (with_reducible rfl)
      simp only [Act.put, List.setIfInBounds_toArray, List.set_cons_zero, List.set_cons_succ]
      refine anyL_take (i := 1) (v := ?v1_2) (atS at0) (by kernel_rfl) (by kernel_rfl) (by kernel_rfl) (by kernel_rfl) (fun _ _ _ h => h) rfl ?y1_2 HS ?r1_2
      case y1_2 => intro wx hx; have h1 : wx.cell? ⟨wr.heap.size, 0, none⟩ = some (.int .i64 (el l k).1) := hx; go_simp; try (with_reducible rfl)
      simp only [Act.put, List.setIfInBounds_toArray, List.set_cons_zero, List.set_cons_succ]
      refine anyL_take (i := 2) (v := ?v2_3) (atS (atS at0)) (by kernel_rfl) (by kernel_rfl) (by kernel_rfl) (by kernel_rfl) (fun _ _ _ h => h) rfl ?y2_3 HS ?r2_3
      case y2_3 => intro wx hx; have h1 : wx.cell? ⟨wr.heap.size, 0, none⟩ = some (.int .i64 (el l k).1) := hx; go_simp; try (with_reducible rfl)
      simp only [Act.put, List.setIfInBounds_toArray, List.set_cons_zero, List.set_cons_succ]
      refine anyL_take (i := 3) (v := ?v3_4) (atS (atS (atS at0))) (by kernel_rfl) (by kernel_rfl) (by kernel_rfl) (by kernel_rfl) (fun _ _ _ h => h) rfl ?y3_4 HS ?r3_4
      case y3_4 => intro wx hx; have h1 : wx.cell? ⟨wr.heap.size, 0, none⟩ = some (.int .i64 (el l k).1) := hx; go_simp; try (with_reducible rfl)
      simp only [Act.put, List.setIfInBounds_toArray, List.set_cons_zero, List.set_cons_succ]
      refine anyL_take (i := 4) (v := ?v4_5) (atS (atS (atS (atS at0)))) (by kernel_rfl) (by kernel_rfl) (by kernel_rfl) (by kernel_rfl) (fun _ _ _ h => h) rfl ?y4_5 HS ?r4_5
      case y4_5 => intro wx hx; have h1 : wx.cell? ⟨wr.heap.size, 0, none⟩ = some (.int .i64 (el l k).1) := hx; go_simp; try (with_reducible rfl)
      simp only [Act.put, List.setIfInBounds_toArray, List.set_cons_zero, List.set_cons_succ]
      refine anyL_take (i := 5) (v := ?v5_6) (atS (atS (atS (atS (atS at0))))) (by kernel_rfl) (by kernel_rfl) (by kernel_rfl) (by kernel_rfl) (fun _ _ _ h => h) rfl ?y5_6 HS ?r5_6
      case y5_6 => intro wx hx; have h1 : wx.cell? ⟨wr.heap.size, 0, none⟩ = some (.int .i64 (el l k).1) := hx; go_simp; try (with_reducible rfl)
      simp only [Act.put, List.setIfInBounds_toArray, List.set_cons_zero, List.set_cons_succ]
      refine anyL_one (i := 6) (atS (atS (atS (atS (atS (atS at0)))))) (by kernel_rfl) rfl (fun K hK => ?_)
      go_simp
      refine HCC.mono ?_
      rintro e w3 ⟨v3, rfl, ho3, hg3⟩
      obtain ⟨a3, cp3, rfl⟩ := own_sl ho3
      have B3 : Below (wr.heap.size + 1) w2.drew w3 := (Below.refl _ _).grown hg3 (by have := B1.size; simp only [World.size_alloc] at this; exact this) (fun q hq => ((ho1'.lt q hq).1))
      have B3' : Below (wr.heap.size + 1) w2 w3 := ⟨B3.os, B3.tape, B3.output, B3.size, B3.block⟩
      have HS3 : HeldR wr.heap.size (el l k).1 w3 := (HB0.below B3' (Nat.lt_succ_self _)).cell 0 rfl
      have BW : Below wr.heap.size wr w3 := B1'.trans (B3'.mono (by omega))
      have hbs3 : Blk w3 w1.heap.size (vs.flatMap encS).toArray 41 := hbs.out.below BW (by omega)
      have e0 := hbs3.cell (k * 2) (v := .int .i64 (el vs k).1) (by rw [List.getElem?_toArray]; exact flat_at encS_len vs k (by omega) 0 (by omega))
      have e1 := hbs3.cell (k * 2 + 1) (v := (el vs k).2) (by rw [List.getElem?_toArray]; exact flat_at encS_len vs k (by omega) 1 (by omega))
      have f0 := hbs3.fz (k * 2)
      have f1 := hbs3.fz (k * 2 + 1)
      refine hK _ _ (.inr HS3) ?_
      try simp only [Act.put, List.setIfInBounds_toArray, List.set_cons_zero, List.set_cons_succ]
      refine anyL_take (i := 7) (v := ?v7_7) (atS (atS (atS (atS (atS (atS (atS at0))))))) (by kernel_rfl) (by kernel_rfl) (by kernel_rfl) (by kernel_rfl) (fun _ _ _ h => h) rfl ?y7_7 HS3 ?r7_7
      case y7_7 => intro wx hx; have h1 : wx.cell? ⟨wr.heap.size, 0, none⟩ = some (.int .i64 (el l k).1) := hx; go_simp; try (with_reducible rfl)
      simp only [Act.put, List.setIfInBounds_toArray, List.set_cons_zero, List.set_cons_succ]
      refine anyL_take (i := 8) (v := ?v8_8) (atS (atS (atS (atS (atS (atS (atS (atS at0)))))))) (by kernel_rfl) (by kernel_rfl) (by kernel_rfl) (by kernel_rfl) (fun _ _ _ h => h) rfl ?y8_8 HS3 ?r8_8
      case y8_8 => intro wx hx; have h1 : wx.cell? ⟨wr.heap.size, 0, none⟩ = some (.int .i64 (el l k).1) := hx; go_simp; try (with_reducible rfl)
      simp only [Act.put, List.setIfInBounds_toArray, List.set_cons_zero, List.set_cons_succ]
      refine anyL_one (i := 9) (atS (atS (atS (atS (atS (atS (atS (atS (atS at0))))))))) (by kernel_rfl) rfl (fun K hK => ?_)
      go_simp
      refine hK _ _ (.inl rfl) (anyL_done (by kernel_rfl) (NoPanic.normal ?_))
      try simp only [Act.put, List.setIfInBounds_toArray, List.set_cons_zero, List.set_cons_succ]
      have R1 : Hid (Blk ((w3.setCell ⟨w1.heap.size, k * 2, none⟩ (.int .i64 (el l k).1)).setCell ⟨w1.heap.size, k * 2 + 1, none⟩ (.slice a3 (f (el l k).2).length cp3)) w1.heap.size ((vs.set k ((el l k).1, .slice a3 (f (el l k).2).length cp3)).flatMap encS).toArray 41) := by
        have h := (hbs3.set (k * 2) (.int .i64 (el l k).1)).set (k * 2 + 1) (.slice a3 (f (el l k).2).length cp3)
        rw [set_state (by omega) ((el l k).1, .slice a3 (f (el l k).2).length cp3)] at h
        exact h
      have R2 : Hid (∀ j, j < k + 1 → (el (vs.set k ((el l k).1, .slice a3 (f (el l k).2).length cp3)) j).1 = (el l j).1 ∧ ((w3.setCell ⟨w1.heap.size, k * 2, none⟩ (.int .i64 (el l k).1)).setCell ⟨w1.heap.size, k * 2 + 1, none⟩ (.slice a3 (f (el l k).2).length cp3)).ownsRow (w1.heap.size + 1) 43 4 (el (vs.set k ((el l k).1, .slice a3 (f (el l k).2).length cp3)) j).2 (f (el l j).2).length ((f (el l j).2).flatMap encA)) := by
        intro j hj
        rw [el_set (by omega)]
        by_cases hjk : j = k
        · subst hjk
          rw [if_pos rfl]
          exact ⟨rfl, ownsRow_setCell_below (ownsRow_setCell_below (own_mono (base' := w1.heap.size + 1) ho3 (by omega)) (Nat.lt_succ_self _) _) (Nat.lt_succ_self _) _⟩
        · rw [if_neg hjk]
          obtain ⟨q1, q2⟩ := hold.out j (by omega)
          exact ⟨q1, ownsRow_setCell_below (ownsRow_setCell_below (own_below q2 BW) (Nat.lt_succ_self _) _) (Nat.lt_succ_self _) _⟩
      have R3 : Hid (Blk ((w3.setCell ⟨w1.heap.size, k * 2, none⟩ (.int .i64 (el l k).1)).setCell ⟨w1.heap.size, k * 2 + 1, none⟩ (.slice a3 (f (el l k).2).length cp3)) w.heap.size #[.int .i64 z, .slice (some ⟨b, off, none⟩) n cap] 27) := ((hk0.out.below BW (by omega)).setO _ _ (by show w.heap.size ≠ w1.heap.size; omega)).setO _ _ (by show w.heap.size ≠ w1.heap.size; omega)
      have R4 : Hid (Blk ((w3.setCell ⟨w1.heap.size, k * 2, none⟩ (.int .i64 (el l k).1)).setCell ⟨w1.heap.size, k * 2 + 1, none⟩ (.slice a3 (f (el l k).2).length cp3)) (w.heap.size + 1) #[.int .i64 0, .slice none 0 0] 27) := ((hk1.out.below BW (by omega)).setO _ _ (by show w.heap.size + 1 ≠ w1.heap.size; omega)).setO _ _ (by show w.heap.size + 1 ≠ w1.heap.size; omega)
      have R5 : Hid (Below w.heap.size w ((w3.setCell ⟨w1.heap.size, k * 2, none⟩ (.int .i64 (el l k).1)).setCell ⟨w1.heap.size, k * 2 + 1, none⟩ (.slice a3 (f (el l k).2).length cp3))) := ((hb.out.trans (BW.mono hb.out.size)).setCell (by show w.heap.size ≤ w1.heap.size; omega) _).setCell (by show w.heap.size ≤ w1.heap.size; omega) _
      have R6 : Hid (w1.heap.size + 1 ≤ w3.heap.size) := Nat.le_trans hws BW.size
      clear ho1 ho1' ho3 hg1 hg3 B1 B1' B3 B3' BW hbs3 HB0 HCC HS HS3 hold hbs hk0 hk1
      have h60 : n ≤ 60 := H60.out
      go_wp2
      go_roundw
      case rel => exact ⟨k + 1, _, by omega, by go_num, by simp [hvl], R1, R2, R3, R4, R5, by simp [World.setCell]; exact R6.out⟩
      case measure => simp [intOf]; omega
    · have hke : k = n := by omega
      have hnl : ¬ (k : Int) < (n : Int) := by omega
      have HX : Hid (∀ w', Agree w1.heap.size wr w' → Sts w' (.slice (some ⟨w1.heap.size, 0, none⟩) n n) (l.map fun s => (s.1, f s.2))) := by
        intro w' hg
        have hl2 : (l.map fun s => (s.1, f s.2)).length = n := by simp; exact HN.out
        have := sts_block (l := l.map fun s => (s.1, f s.2)) (B := w1.heap.size + 1) (w := w') (blk_agree hbs.out (Nat.le_refl _) hg) (by rw [hl2]; exact hvl) (fun j hj => by
          have hj' : j < l.length := by simpa using hj
          rw [el_map hj']
          obtain ⟨q1, q2⟩ := hold.out j (by rw [hke, ← HN.out]; exact hj')
          exact ⟨q1, own_agree q2 (hg.mono (Nat.le_succ _))⟩)
        rw [hl2] at this
        exact this
      have d0 := hk0.out.cell 0 (v := .int .i64 z) rfl
      have e0 := hk1.out.cell 0 (v := .int .i64 0) rfl
      have e1 := hk1.out.cell 1 (v := .slice none 0 0) rfl
      have e2 := hk1.out.fz 0
      have e3 := hk1.out.fz 1
      have HB : Hid (Below w.heap.size w wr) := hb
      clear hold hbs hb hke hk0 hk1
      go_wp2
      refine bodyPost_ret (v := .tuple #[.agg #[.int .i64 z, .slice (some ⟨w1.heap.size, 0, none⟩) n n], .int .i64 0]) (by simp [results, Try.results32, go_sem, *]) rfl ⟨_, rfl, fun w' hg => ⟨_, rfl, ?_⟩, by (have h := HB.out); go_grown⟩
      exact HX.out w' (((agree_set (by show w.heap.size + 1 < _; omega) _).trans (by simp [World.setCell]) (agree_set (by show w.heap.size + 1 < _; omega) _)).trans (by simp [World.setCell]) (hg.mono (by omega)))
set_option maxRecDepth 100000 in
theorem arranged_bad (v : Value) (m : Mc) (w : World) (h : Mach w v m) (hok : okM m) (g : Nat) (lb : Array Value) (r : Int) (hr : faultM m = r) (h0 : r ≠ 0) :
    Calls Try.prog 32 #[v, .func (.func g) #[] lb] w fun e w' => e = .returned (.tuple #[.agg #[.int .i64 0, .slice none 0 0], .int .i64 r]) ∧ Below w.heap.size w w' := by
  obtain ⟨z, l⟩ := m
  obtain ⟨vs, rfl, hS⟩ := h
  obtain ⟨a, cap, rfl⟩ := hS.sl
  have HM : Hid (Mach w (.agg #[.int .i64 z, .slice a l.length cap]) (z, l)) := ⟨_, rfl, hS⟩
  have HK : Hid (okM (z, l)) := hok
  have HR : Hid (faultM (z, l) = r) := hr
  clear hS hok hr
  simp only
  have hne : (r != 0) = true := by simpa using h0
  generalize l.length = n at *
  go_enter Try.func32, Try.ntmps32
  go_wp2_with (first
      | (go_at_call 21; (with_reducible refine (coreCheck_any _ (z, l) _ (HM.out.later (B := w.heap.size) (by go_grown) (Nat.le_refl _)) HK.out _ HR.out).mono ?_); rintro e w1 ⟨rfl, hb⟩; obtain ⟨s1, k0, k1, hb1⟩ := boxed2 hb (by simp); have HB1 : Hid (Below w.heap.size w w1) := hb1; have e0 := k1.cell 0 (v := .int .i64 0) rfl; have e1 := k1.cell 1 (v := .slice none 0 0) rfl; have f0 := k1.fz 0; have f1 := k1.fz 1; clear hb hb1 k0 k1))
  exact bodyPost_ret (v := .tuple #[.agg #[.int .i64 0, .slice none 0 0], .int .i64 r]) (by simp [results, Try.results32, go_sem, *]) rfl ⟨rfl, by (have h := HB1.out); go_grown⟩
theorem mach_none (w : World) : Mach w (.agg #[.int .i64 0, .slice none 0 0]) (0, []) := ⟨_, rfl, [], .inl ⟨rfl, rfl⟩, rfl, by simp⟩
theorem arranged_any (v : Value) (m : Mc) (w : World) (h : Mach w v m) (hok : okM m) (g : Nat) (lb : Array Value) (f : List Ar → List Ar) (eg : ∀ ar W, (callFunc g ar).run Try.prog W = .ok (.enter g ar) W) (hp : PutAt g lb f w) (r : Int) (hr : faultM m = r) :
    Calls Try.prog 32 #[v, .func (.func g) #[] lb] w fun e w' => ∃ v', e = .returned (.tuple #[v', .int .i64 r]) ∧ MachFrom w.heap.size w' v' (resM r (mapM f m)) ∧ Below w.heap.size w w' := by
  by_cases h0 : r = 0
  · subst h0
    exact arranged_ok v m w h hok g lb f eg hp hr
  · refine (arranged_bad v m w h hok g lb r hr h0).mono ?_
    rintro e w' ⟨he, hb⟩
    refine ⟨_, he, ?_, hb⟩
    rw [resM, if_neg h0]
    exact fun w'' _ => mach_none w''
end Go.Proofs.Ytbiecfnhjfdkcaa.Wt
