/- distance.least: what is held in memory, and its inner function, which puts ways to those that wait. -/
import Derived.Test.YtfhjncpakgailaaGreatDoorPaH
import Derived.Test.YtfhjncpakgailaaGreatDoorPaA
import Derived.Test.YtfhjncpakgailaaGreatDoorPad
import Derived.Laws.NewFold
namespace Go.Proofs.YtfhjncpakgailaaGreatDoor.Dw
open Go.ChangeShapes Go.WideShapes Go.ChangeAt Go.RowKit
open Go.Proofs.YtfhjncpakgailaaGreatDoor.Pl Go.Proofs.YtfhjncpakgailaaGreatDoor.Wt
set_option linter.unusedVariables false
set_option linter.unusedSimpArgs false
theorem row_ways {w : World} {v : Value} {xs : List Ar} (h : Row 2 encD w v xs) : ∃ a cap, v = .slice a xs.length cap ∧ ∀ j, j < xs.length → ∃ b off, a = some ⟨b, off, none⟩ ∧ b < w.heap.size ∧ w.cell? ⟨b, off + j * 2, none⟩ = some (.int .i64 (el xs j).1) ∧ w.cell? ⟨b, off + j * 2 + 1, none⟩ = some (.int .i64 (el xs j).2.2.2) := by
 by_cases hz : 0 < xs.length
 ·obtain ⟨b, off, cap, hv, hb, hc⟩ := h.plain (fun x => by rw [encD_len]; omega) hz
  exact ⟨_, cap, hv, fun j hj => ⟨b, off, rfl, hb, hc j hj 0 _ rfl, hc j hj 1 _ rfl⟩⟩
 ·obtain ⟨a, cap, hv⟩ := h.sl
  exact ⟨a, cap, hv, fun j hj => absurd hj (by omega)⟩
structure LstAt (w wr : World) (C E V B N : Nat) (v : Value) (hs : List Ar) (bs : List Bool) (cs : List Int) : Prop where
 cst : Blk wr C (cs.map (Value.int .i64)).toArray 3
 don : Blk wr E (bs.map Value.bool).toArray 4
 dvr : Blk wr V #[.slice (some ⟨E, 0, none⟩) N N] 53
 var : Blk wr B #[v] 156
 heap : wr.ownsRow (B + 1) 158 2 v hs.length (hs.flatMap encD)
 below : Below w.heap.size w wr
 s0 : w.heap.size ≤ C
 s1 : C < E
 s2 : E < V
 s3 : V < B
 s4 : B + 1 ≤ wr.heap.size
variable {w wr w' : World} {C E V B N : Nat} {v v' : Value} {hs hs' : List Ar} {bs : List Bool} {cs : List Int}
theorem LstAt.later (h : LstAt w wr C E V B N v hs bs cs) (hb : Below wr.heap.size wr w') : LstAt w w' C E V B N v hs bs cs :=
 ⟨h.cst.below hb h.cst.lt, h.don.below hb h.don.lt, h.dvr.below hb h.dvr.lt, h.var.below hb h.var.lt, ownBelow h.heap hb, h.below.trans (hb.mono h.below.size), h.s0, h.s1, h.s2, h.s3, Nat.le_trans h.s4 hb.size⟩
theorem LstAt.alloc (h : LstAt w wr C E V B N v hs bs cs) (o : Obj) : LstAt w (wr.alloc o) C E V B N v hs bs cs := h.later ((Below.refl _ _).alloc (Nat.le_refl _) _)
theorem LstAt.low (h : LstAt w wr C E V B N v hs bs cs) {k : Nat} (hk : k < B + 1) : some k ≠ v.ownBlock := fun e => by have := (h.heap.lt k e.symm).1; omega
theorem LstAt.turn (h : LstAt w wr C E V B N v hs bs cs) (ht : Turn2 wr w' B v.ownBlock) (hv : Blk w' B #[v'] 156) (ho : w'.ownsRow (B + 1) 158 2 v' hs'.length (hs'.flatMap encD)) : LstAt w w' C E V B N v' hs' bs cs := by
 have h0 := h.s0
 have h1 := h.s1
 have h2 := h.s2
 have h3 := h.s3
 exact ⟨ht.blk h.cst (by omega) (h.low (by omega)), ht.blk h.don (by omega) (h.low (by omega)), ht.blk h.dvr (by omega) (h.low (by omega)), hv, ho, h.below.trans (ht.below (by omega) (fun k hk => by have := (h.heap.lt k hk).1; omega) h.below.size), h0, h1, h2, h3, Nat.le_trans h.s4 ht.size⟩
theorem LstAt.setC (h : LstAt w wr C E V B N v hs bs cs) (q : Nat) (c : Int) : LstAt w (wr.setCell ⟨C, q, none⟩ (.int .i64 c)) C E V B N v hs bs (cs.set q c) := by
 have h0 := h.s0
 have h1 := h.s1
 have h2 := h.s2
 have h3 := h.s3
 refine ⟨by have := h.cst.set q (.int .i64 c); rwa [set_num] at this, h.don.setO _ _ (by show E ≠ C; omega), h.dvr.setO _ _ (by show V ≠ C; omega), h.var.setO _ _ (by show B ≠ C; omega), h.heap.kept (gSet wr C q _) (.inr (Ne.symm (h.low (by omega)))), h.below.setCell (p := ⟨C, q, none⟩) h0 _, h0, h1, h2, h3, ?_⟩
 simp [World.setCell]
 exact h.s4
theorem LstAt.setE (h : LstAt w wr C E V B N v hs bs cs) (q : Nat) : LstAt w (wr.setCell ⟨E, q, none⟩ (.bool true)) C E V B N v hs (bs.set q true) cs := by
 have h0 := h.s0
 have h1 := h.s1
 have h2 := h.s2
 have h3 := h.s3
 refine ⟨h.cst.setO _ _ (by show C ≠ E; omega), by have := h.don.set q (.bool true); rwa [set_bool] at this, h.dvr.setO _ _ (by show V ≠ E; omega), h.var.setO _ _ (by show B ≠ E; omega), h.heap.kept (gSet wr E q _) (.inr (Ne.symm (h.low (by omega)))), h.below.setCell (p := ⟨E, q, none⟩) (by show w.heap.size ≤ E; omega) _, h0, h1, h2, h3, ?_⟩
 simp [World.setCell]
 exact h.s4
theorem LstAt.drew (h : LstAt w wr C E V B N v hs bs cs) : LstAt w wr.drew C E V B N v hs bs cs := h.later (Below.refl wr.heap.size wr).drew
def lenAtD (w : World) (b : Nat) : Nat := match w.cell? ⟨b, 0, none⟩ with
 | some (.slice _ n _) => n
 | _ => 0
theorem LstAt.len (h : LstAt w wr C E V B N v hs bs cs) : lenAtD wr B = hs.length := by
 obtain ⟨a, cap, hv⟩ := own_slW h.heap
 unfold lenAtD
 rw [h.var.cell 0 (v := v) rfl, hv]
theorem LstAt.few (h : LstAt w wr C E V B N v hs bs cs) : falses wr E = bs.count false := falses_blk h.don
theorem whPush_ex (B base : Nat) (v : Value) (hs : List Ar) (q0 q3 : Int) (w : World) (hB : Blk w B #[v] 156) (hown : w.ownsRow base 158 2 v hs.length (hs.flatMap encD)) (hbase : base ≤ w.heap.size) (hn : hs.length ≤ 9000000) (hH : HeapW hs hs.length) :
  Calls Tryz.prog 122 #[.iface 160 (.pointer (some ⟨B, 0, none⟩)), .iface 158 (.agg #[.int .i64 q0, .int .i64 q3])] w fun e w' => e = .returned (.tuple #[]) ∧ ∃ v' hs', HeapW hs' hs'.length ∧ hs'.Perm (hs ++ [(q0, 0, 0, q3)]) ∧ Blk w' B #[v'] 156 ∧ w'.ownsRow base 158 2 v' hs'.length (hs'.flatMap encD) ∧ Near w v.ownBlock v' ∧ Turn2 w w' B v.ownBlock :=
 whPush_any B base v hs (q0, 0, 0, q3) w hB hown hbase hn hH
theorem whPop_ex (B base : Nat) (v : Value) (hs : List Ar) (w : World) (hB : Blk w B #[v] 156) (hown : w.ownsRow base 158 2 v hs.length (hs.flatMap encD)) (h0 : 0 < hs.length) (hn : hs.length ≤ 9000000) (hH : HeapW hs hs.length) {S : Nat → List Ar} {D : Nat → Option Nat} {b N : Nat} (hD : DijD S N D hs (fun _ _ => False) b) :
  Calls Tryz.prog 124 #[.iface 160 (.pointer (some ⟨B, 0, none⟩))] w fun e w' => ∃ (p c : Nat), e = .returned (.iface 158 (.agg #[.int .i64 (p : Int), .int .i64 (c : Int)])) ∧ p < N ∧ c ≤ 2000000000 ∧ ∃ v' hs', HeapW hs' hs'.length ∧ (wyD p c :: hs').Perm hs ∧ (∀ a ∈ hs', (c : Int) ≤ a.2.2.2) ∧ Blk w' B #[v'] 156 ∧ w'.ownsRow base 158 2 v' hs'.length (hs'.flatMap encD) ∧ Turn2 w w' B v.ownBlock := by
 refine (whPop_any B base v hs w hB hown h0 hn hH).mono ?_
 rintro e w' ⟨q, rfl, v', hs', h1, h2, h3, h4, h5, h6, h7⟩
 obtain ⟨p, c, rfl, hp, _, _, hc⟩ := hD.heap q (h2.mem_iff.1 List.mem_cons_self)
 exact ⟨p, c, rfl, hp, hc, v', hs', h1, h2, h3, h4, h5, h7⟩
theorem near_next {w0 w2 : World} {r : Option Nat} {v1 v2 : Value} (h : Near w0 r v1) (hs : w0.heap.size ≤ w2.heap.size) (h2 : Near w2 v1.ownBlock v2) : Near w0 r v2 := by
 rcases h2 with e | ⟨b, e, hb⟩
 ·rcases h with e1 | ⟨b1, e1, hb1⟩
  ·exact .inl (e.trans e1)
  ·exact .inr ⟨b1, e.trans e1, hb1⟩
 ·exact .inr ⟨b, e, Nat.le_trans hs hb⟩
set_option maxRecDepth 100000 in
set_option maxHeartbeats 3200000 in
theorem put_any {S : Nat → List Ar} {D : Nat → Option Nat} (w w1 : World) (C E V B N p c : Nat) (v vl : Value) (hs : List Ar) (bs : List Bool) (cs : List Int) (hT : LstAt w w1 C E V B N v hs bs cs) (hS : StpR S N) (hD : DijD S N D hs (fun q i => q = p ∧ 0 ≤ i) c) (hpc : D p = some c) (hB : DonB D bs N) (hH : HeapW hs hs.length) (hl : hs.length ≤ 100000) (hp : p ≤ N) (hr : Row 2 encD w vl (S p)) (hN : N ≤ 60) (hc : c ≤ 1000000000) :
  Calls Tryz.prog 121 #[vl, .int .i64 (c : Int), .pointer (some ⟨V, 0, none⟩), .pointer (some ⟨B, 0, none⟩)] w1 fun e w' => e = .returned (.tuple #[]) ∧ ∃ v' hs', LstAt w w' C E V B N v' hs' bs cs ∧ DijD S N D hs' (fun _ _ => False) c ∧ HeapW hs' hs'.length ∧ hs'.length ≤ hs.length + 400 ∧ Turn2 w1 w' B v.ownBlock := by
 obtain ⟨a, cap, hv, hcl⟩ := row_ways hr
 subst hv
 have HCL := hidP hcl
 have HT := hidP hT
 have HS := hidP hS
 have HD := hidP hD
 have HPC := hidP hpc
 have HDB := hidP hB
 have HH := hidP hH
 have HSP := hidP (hS p hp)
 have hL4 := (hS p hp).1
 clear hT hS hD hpc hB hH hr hcl
 generalize hL : (S p).length = L at *
 have HL := hidP hL
 clear hL
 have hnot : ∀ (x : Bool) (w : World), (Op.unary .not (.bool x)).run Tryz.prog w = .ok (.bool (!x)) w := fun _ _ => rfl
 go_enter Tryz.func121, Tryz.ntmps121
 go_wp2
 go_loopw [10] (fun i wi => ∃ (k : Nat) (v' : Value) (hs' : List Ar), k ≤ L ∧ i = .int .i64 (k : Int) ∧ Hid (DijD S N D hs' (fun q i => q = p ∧ k ≤ i) c ∧ HeapW hs' hs'.length ∧ hs'.length ≤ hs.length + k) ∧ Hid (LstAt w wi C E V B N v' hs' bs cs) ∧ Hid (Near w1 v.ownBlock v' ∧ Turn2 w1 wi B v.ownBlock)) (fun i _ => L - (intOf i).toNat)
 case atStart => exact ⟨0, v, hs, Nat.zero_le _, rfl, ⟨HD.out, HH.out, Nat.le_refl _⟩, HT, .inl rfl, Turn2.grown (gNew (Below.refl _ _)) B⟩
 case round =>
  clear HT HD HH
  obtain ⟨k, v5, hs5, hk, rfl, hI, hT, hU⟩ := hrel
  obtain ⟨w5, hw5⟩ : ∃ w5, w5 = wr := ⟨_, rfl⟩
  subst hw5
  by_cases hlt : k < L
  ·have j0 : (0 : Int) ≤ (k : Int) := Int.natCast_nonneg _
   have j1 : (k : Int) < (L : Int) := by omega
   obtain ⟨b2, off2, ha2, hb2l, q0, q1⟩ := HCL.out k hlt
   subst ha2
   have q0 := (hT.out.below.cell (p := ⟨b2, off2 + k * 2, none⟩) hb2l).trans q0
   have q1 := (hT.out.below.cell (p := ⟨b2, off2 + k * 2 + 1, none⟩) hb2l).trans q1
   obtain ⟨p', wt, hw, hpN, hwl⟩ := HSP.out.2 (el (S p) k) (el_mem (by rw [HL.out]; exact hlt))
   have HW := hidP hw
   rw [hw] at q0 q1
   simp only [wyD] at q0 q1
   clear hw
   have hsum : IntKind.i64.wrap ((c : Int) + (wt : Int)) = (c : Int) + (wt : Int) := wrapI (by omega) (by omega)
   have p0 : (0 : Int) ≤ (p' : Int) := Int.natCast_nonneg _
   have p1 : (p' : Int) < (N : Int) := by omega
   have T6 := hidP (hT.out.alloc (.cells #[.int .i64 (p' : Int), .int .i64 (wt : Int)] 158))
   have U6 : Hid (Near w1 v.ownBlock v5 ∧ Turn2 w1 (w5.alloc (.cells #[.int .i64 (p' : Int), .int .i64 (wt : Int)] 158)) B v.ownBlock) := ⟨hU.out.1, hU.out.2.trans (Turn2.grown (World.grownBy_alloc _ _ _) B) (.inl rfl)⟩
   have cV := T6.out.dvr.cell 0 (v := .slice (some ⟨E, 0, none⟩) N N) rfl
   have cE := bool_cell T6.out.don (j := p') (by rw [HDB.out.1]; exact hpN)
   have hl5 : hs5.length ≤ 9000000 := by have := hI.out.2.2; omega
   rcases bool_cases' (el bs p') with hf | hf
   ·rw [hf] at cE
    obtain ⟨e, he⟩ := HDB.out.some hpN hf
    have HE := hidP he
    clear hf he
    go_wp2
    go_roundw
    case rel => exact ⟨k + 1, v5, hs5, by omega, by go_num, ⟨hI.out.1.skip HPC.out HW.out HE.out, hI.out.2.1, by have := hI.out.2.2; omega⟩, T6, U6⟩
    case measure => simp [intOf]; omega
   ·rw [hf] at cE
    have HPU := hidP (whPush_ex B (B + 1) v5 hs5 (p' : Int) ((c : Int) + (wt : Int)) _ T6.out.var T6.out.heap T6.out.s4 hl5 hI.out.2.1)
    clear hf
    go_wp2_with (first
     | (go_at_call 122; (with_reducible refine HPU.out.mono ?_); rintro e w8 ⟨rfl, v8, hs8, hh8, hp8, hb8, ho8, hn8, ht8⟩; have T8 := hidP (T6.out.turn ht8 hb8 ho8); have U8 : Hid (Near w1 v.ownBlock v8 ∧ Turn2 w1 w8 B v.ownBlock) := ⟨near_next U6.out.1 U6.out.2.size hn8, U6.out.2.trans ht8 U6.out.1⟩; have HP8 := hidP hp8; have HH8 := hidP hh8; clear hh8 hp8 hb8 ho8 hn8 ht8))
    go_roundw
    case rel =>
     refine ⟨k + 1, v8, hs8, by omega, by go_num, ⟨hI.out.1.push HS.out HPC.out (by rw [HL.out]; exact hlt) HW.out ?_, HH8.out, ?_⟩, T8, U8⟩
     ·have h9 := HP8.out
      rw [← Int.natCast_add] at h9
      exact h9
     ·rw [HP8.out.length_eq, List.length_append]
      have := hI.out.2.2
      simp
      omega
    case measure => simp [intOf]; omega
  ·have hke : k = L := by omega
   have hnl : ¬ (k : Int) < (L : Int) := by omega
   have HDA := hidP (hI.out.1.all (by rw [HL.out]; omega))
   go_wp2
   go_end0
   exact ⟨rfl, v5, hs5, hT.out, HDA.out, hI.out.2.1, by have := hI.out.2.2; omega, hU.out.2⟩
theorem run_boolsD (n : Nat) (hn : n ≤ 1000) (W : World) : (Instr.makeSlice 53 (.int .i64 (n : Int)) (.int .i64 (n : Int))).run Tryz.prog W = .ok (.slice (some ⟨W.heap.size, 0, none⟩) n n) (W.alloc (.cells ((List.replicate n false).map Value.bool).toArray 4)) := by
 obtain ⟨i1, hi1, hy0, hy1, hy2⟩ := info_parts infoBool
 have h := run_make (P := Tryz.prog) W 53 4 i1 _ Tryz.underlying53 hi1 hy0 .i64 .i64 n n (by omega) (by omega) (by rw [hy2]; omega) (by omega)
 rw [hy1, Int.toNat_natCast, made_bools] at h
 exact h
theorem LstAt.made {w w1 : World} {C N : Nat} {cs : List Int} (hC : Blk w1 C (cs.map (Value.int .i64)).toArray 3) (hb : Below w.heap.size w w1) (h0 : w.heap.size ≤ C) :
  LstAt w (((w1.alloc (.cells (Array.replicate N (Value.bool false)) 4)).alloc (.cells #[.slice (some ⟨w1.heap.size, 0, none⟩) N N] 53)).alloc (.cells #[.slice none 0 0] 156)) C w1.heap.size (w1.heap.size + 1) (w1.heap.size + 1 + 1) N (.slice none 0 0) [] (List.replicate N false) cs := by
 have k1 := Blk.made w1 (Array.replicate N (Value.bool false)) 4
 have k2 := Blk.made (w1.alloc (.cells (Array.replicate N (Value.bool false)) 4)) #[.slice (some ⟨w1.heap.size, 0, none⟩) N N] 53
 have k3 := Blk.made ((w1.alloc (.cells (Array.replicate N (Value.bool false)) 4)).alloc (.cells #[.slice (some ⟨w1.heap.size, 0, none⟩) N N] 53)) #[.slice none 0 0] 156
 simp only [World.size_alloc] at k1 k2 k3
 have e : ((List.replicate N false).map Value.bool).toArray = Array.replicate N (Value.bool false) := by simp
 have hs := hb.size
 refine ⟨((hC.alloc _).alloc _).alloc _, by rw [e]; exact (k1.alloc _).alloc _, k2.alloc _, k3, World.ownsRow_nil _ _ _ _, ((hb.alloc hs _).alloc (by simp; omega) _).alloc (by simp; omega) _, h0, hC.lt, by omega, by omega, by simp⟩
def HeldL (G V E N p c : Nat) (w : World) : Prop := w.cell? ⟨G, 0, none⟩ = some (.int .i64 (p : Int)) ∧ w.cell? ⟨G, 1, none⟩ = some (.int .i64 (c : Int)) ∧ w.cell? ⟨V, 0, none⟩ = some (.slice (some ⟨E, 0, none⟩) N N)
def HeldN (G T p c : Nat) (v : Value) (w : World) : Prop := w.cell? ⟨G, 0, none⟩ = some (.int .i64 (p : Int)) ∧ w.cell? ⟨G, 1, none⟩ = some (.int .i64 (c : Int)) ∧ w.cell? ⟨T, p, none⟩ = some v
theorem blk_neD {w : World} {a b : Nat} {cs cs' : Array Value} {t t' : TypeId} (h1 : Blk w a cs t) (h2 : Blk w b cs' t') (ht : t ≠ t') : a ≠ b := fun e => by
 subst e
 unfold Blk at h1 h2
 rw [h1] at h2
 simp at h2
 exact ht h2.2
theorem cnt_less {bs : List Bool} {p : Nat} (hp : p < bs.length) (hf : el bs p = false) : (bs.set p true).count false + 1 = bs.count false := count_set hp hf
set_option maxRecDepth 100000 in
set_option maxHeartbeats 6400000 in
theorem least_any {S : Nat → List Ar} {P : Nat → Nat → Prop} (N T : Nat) (vF : Value) (rows : List Value) (w : World) (hN : N ≤ 60) (hS : StpR S N) (hP : ∀ q c, q < N → (P q c ↔ RchD S N q c)) (hF : Row 2 encD w vF (S N)) (hT : T < w.heap.size) (hrow : ∀ q, q < N → w.cell? ⟨T, q, none⟩ = some (el rows q) ∧ Row 2 encD w (el rows q) (S q)) :
  Calls Tryz.prog 74 #[vF, .slice (some ⟨T, 0, none⟩) N N] w fun e w' => LstRes (LstAns P N) w e w' := by
 have HS := hidP hS
 have HP := hidP hP
 have HRW := hidP hrow
 have HF := hidP hF
 have hmk := run_nums N (by omega)
 have hmb := run_boolsD N (by omega)
 have hta := assert_way
 clear hS hP hrow hF
 obtain ⟨C, hCe⟩ : ∃ C, C = w.heap.size := ⟨_, rfl⟩
 have HCE := hidP hCe
 clear hCe
 go_enter Tryz.func74, Tryz.ntmps74
 go_wp2
 rw [← HCE.out]
 go_loopw [17] (fun i wr => ∃ (q : Nat) (cs : List Int), q ≤ N ∧ i = .int .i64 q ∧ Hid (cs.length = N ∧ ∀ j, j < q → el cs j = 1000000001) ∧ Hid (Blk wr C (cs.map (Value.int .i64)).toArray 3) ∧ Hid (Below w.heap.size w wr)) (fun i _ => N - (intOf i).toNat)
 case atStart =>
  refine ⟨0, List.replicate N 0, Nat.zero_le _, rfl, ⟨by simp, fun j hj => absurd hj (by omega)⟩, ?_, (Below.refl _ _).alloc (Nat.le_refl _) _⟩
  have h9 := Blk.made w ((List.replicate N (0 : Int)).map (Value.int .i64)).toArray 3
  rw [← HCE.out] at h9
  simp only [List.map_replicate, List.toArray_replicate] at h9 ⊢
  exact h9
 case round =>
  obtain ⟨q, cs, hq, rfl, hc, hB, hb⟩ := hrel
  by_cases hqn : q < N
  ·have hq0 : (0 : Int) ≤ (q : Int) := by omega
   have hq1 : (q : Int) < (N : Int) := by omega
   have y0 := num_cell hB.out (j := q) (by rw [hc.out.1]; exact hqn)
   have y1 := hB.out.fz q
   have HB2 : Hid (Blk (wr.setCell ⟨C, q, none⟩ (.int .i64 1000000001)) C ((cs.set q 1000000001).map (Value.int .i64)).toArray 3) := by have h9 := hB.out.set q (.int .i64 1000000001); rw [set_num] at h9; exact h9
   have HC2 : Hid ((cs.set q 1000000001).length = N ∧ ∀ j, j < q + 1 → el (cs.set q 1000000001) j = 1000000001) := by
    refine ⟨by rw [List.length_set]; exact hc.out.1, fun j hj => ?_⟩
    rw [el_setT (by rw [hc.out.1]; exact hqn)]
    split
    ·rfl
    ·exact hc.out.2 j (by omega)
   have HL2 : Hid (Below w.heap.size w (wr.setCell ⟨C, q, none⟩ (.int .i64 1000000001))) := hb.out.setCell (p := ⟨C, q, none⟩) (by rw [HCE.out]; exact Nat.le_refl _) _
   go_wp2
   go_roundw
   case rel => exact ⟨q + 1, cs.set q 1000000001, by omega, by go_num, HC2, HB2, HL2⟩
   case measure => simp [intOf]; omega
  ·have hnl : ¬ (q : Int) < (N : Int) := by omega
   have hqe : q = N := by omega
   subst hqe
   obtain ⟨w1, hw1⟩ : ∃ w1, w1 = wr := ⟨_, rfl⟩
   subst hw1
   have HT0 := hidP (LstAt.made (N := q) hB.out hb.out (by rw [HCE.out]; exact Nat.le_refl _))
   have HDC0 := hidP (DonC.start q hc.out.1 hc.out.2)
   have HP0 := hidP (put_any (D := srcD q) w _ C w1.heap.size (w1.heap.size + 1) (w1.heap.size + 1 + 1) q q 0 _ vF [] _ cs HT0.out HS.out DijD.start (if_pos rfl) (DonB.start q) HeapW.nil (by simp) (Nat.le_refl _) HF.out hN (by omega))
   clear hc hB hb
   go_wp2_with (first
    | (go_at_call 121; (refine HP0.out.mono ?_); rintro e w2 ⟨rfl, v2, hs2, ht2, hd2, hh2, hl2, _⟩; have HT2 := hidP ht2; have HI2 : Hid (DijD S q (srcD q) hs2 (fun _ _ => False) 0 ∧ HeapW hs2 hs2.length ∧ (List.replicate q false).count false * 401 + hs2.length ≤ 30000) := ⟨hd2, hh2, by simp at hl2 ⊢; omega⟩; clear ht2 hd2 hh2 hl2))
   clear HP0 HT0
   generalize hE : w1.heap.size = E at *
   generalize hV : E + 1 = V at *
   generalize hB : V + 1 = B at *
   clear hE hV hB
   go_loopw [] (fun wr => ∃ (D : Nat → Option Nat) (hs : List Ar) (v : Value) (b : Nat) (bs : List Bool) (cs : List Int), Hid (DijD S q D hs (fun _ _ => False) b ∧ HeapW hs hs.length ∧ bs.count false * 401 + hs.length ≤ 30000) ∧ Hid (DonB D bs q ∧ DonC D cs q) ∧ Hid (LstAt w wr C E V B q v hs bs cs)) (fun wr => falses wr E * 401 + lenAtD wr B)
   case atStart => exact ⟨_, hs2, v2, 0, _, cs, HI2, ⟨DonB.start q, HDC0.out⟩, HT2⟩
   case round =>
    clear HI2 HDC0 HT2
    obtain ⟨D, hs, v, b, bs, cs, hI, hDn, hT⟩ := hrel
    obtain ⟨w3, hw3⟩ : ∃ w3, w3 = wr := ⟨_, rfl⟩
    subst hw3
    have hlen : hs.length ≤ 30000 := by have := hI.out.2.2; omega
    have HMS : Hid (falses w3 E * 401 + lenAtD w3 B = bs.count false * 401 + hs.length) := by show _ = _; rw [hT.out.few, hT.out.len]
    obtain ⟨av, cv, hv⟩ := own_slW hT.out.heap
    subst hv
    have cB := hT.out.var.cell 0 (v := .slice av hs.length cv) rfl
    by_cases hz : hs.length = 0
    ·have hz' : ((hs.length : Nat) : Int) = 0 := by omega
     have HAN : Hid (LstAns P q cs 0) := by
      have h9 := hI.out.1
      rw [List.eq_nil_of_length_eq_zero hz] at h9
      exact h9.ans HS.out HP.out hDn.out.2.1 hDn.out.2.2
     have HNU : Hid (Nums w3 (.slice (some ⟨C, 0, none⟩) q q) cs) := by have h9 := nums_block (cap := q) hT.out.cst; rw [hDn.out.2.1] at h9; exact h9
     go_wp2_with (first
      | (go_at_call 123; (with_reducible refine (wLen_any _ _ _ _).mono ?_); rintro e w4 ⟨rfl, rfl⟩))
     go_ret2
     exact ⟨_, cs, 0, rfl, HAN.out, HNU.out, hT.out.below⟩
    ·have hz' : (0 : Int) < ((hs.length : Nat) : Int) := by omega
     have HPO := hidP (whPop_ex B (B + 1) _ hs w3 hT.out.var hT.out.heap (by omega) (by omega) hI.out.2.1 hI.out.1)
     go_wp2_with (first
      | (go_at_call 123; (with_reducible refine (wLen_any _ _ _ _).mono ?_); rintro e w4 ⟨rfl, rfl⟩)
      | (go_at_call 124; ((with_reducible refine HPO.out.mono ?_); rintro e w5 ⟨p, c, rfl, hpq, hc2, v5, hs5, hh5, hp5, hle5, hb5, ho5, ht5⟩; have HT5 := hidP ((hT.out.turn ht5 hb5 ho5).alloc (.cells #[.int .i64 (p : Int), .int .i64 (c : Int)] 158)); have HQ5 : Hid (HeapW hs5 hs5.length ∧ (wyD p c :: hs5).Perm hs ∧ (∀ a ∈ hs5, (c : Int) ≤ a.2.2.2)) := ⟨hh5, hp5, hle5⟩; have HB5 : Hid (Blk (w5.alloc (.cells #[.int .i64 (p : Int), .int .i64 (c : Int)] 158)) w5.heap.size #[.int .i64 (p : Int), .int .i64 (c : Int)] 158) := Blk.made _ _ _; have HGR : Hid (some w5.heap.size ≠ v5.ownBlock) := (fun e9 => (by have h9 := (ho5.lt _ e9.symm).2; omega)); have hL5 : hs.length = hs5.length + 1 := (by have h9 := hp5.length_eq; rw [List.length_cons] at h9; exact h9.symm); clear hh5 hp5 hle5 hb5 ho5 ht5; have p0 : (0 : Int) ≤ (p : Int) := Int.natCast_nonneg _; have p1 : (p : Int) < (q : Int) := (by omega); have cV := HT5.out.dvr.cell 0 (v := .slice (some ⟨E, 0, none⟩) q q) rfl; have cE := bool_cell HT5.out.don (j := p) (by rw [hDn.out.1.1]; exact hpq); rcases bool_cases' (el bs p) with hf | hf <;> rw [hf] at cE; case' inr => (by_cases hov : (1000000000 : Int) < (c : Int)))))
     ·go_ret2
      exact ⟨_, [], 4, rfl, hI.out.1.over HS.out HP.out HQ5.out.2.1 HQ5.out.2.2 (hDn.out.1.none hpq hf) (by omega), .inl ⟨rfl, rfl⟩, HT5.out.below⟩
     ·have HNO := hidP (hDn.out.1.none hpq hf)
      have hov2 : c ≤ 1000000000 := by omega
      have HNW := hidP (hI.out.1.new HQ5.out.2.1 HQ5.out.2.2 HNO.out hov2)
      have HPB := hidP (hDn.out.1.put hpq c)
      have HPC := hidP (hDn.out.2.put hpq c)
      have hcnt := cnt_less (bs := bs) (p := p) (by rw [hDn.out.1.1]; exact hpq) hf
      generalize hW : w5.alloc (.cells #[.int .i64 (p : Int), .int .i64 (c : Int)] 158) = W5 at *
      generalize hG : w5.heap.size = G at *
      clear hW hG hf cE cV
      have HS6 : HeldL G V E q p c W5.drew := ⟨HB5.out.cell 0 rfl, HB5.out.cell 1 rfl, HT5.out.dvr.cell 0 rfl⟩
      have hGC : G ≠ C := blk_neD HB5.out HT5.out.cst (by decide)
      have hGE : G ≠ E := blk_neD HB5.out HT5.out.don (by decide)
      have hGB : G ≠ B := blk_neD HB5.out HT5.out.var (by decide)
      have hVC : V ≠ C := by have := HT5.out.s1; have := HT5.out.s2; omega
      have T6 := hidP (HT5.out.setC p (c : Int))
      have T7 := hidP (T6.out.setE p).drew
      have B6 : Hid (Blk (W5.setCell ⟨C, p, none⟩ (.int .i64 (c : Int))) G #[.int .i64 (p : Int), .int .i64 (c : Int)] 158) := HB5.out.setO _ _ hGC
      have B7 : Hid (Blk ((W5.setCell ⟨C, p, none⟩ (.int .i64 (c : Int))).setCell ⟨E, p, none⟩ (.bool true)).drew G #[.int .i64 (p : Int), .int .i64 (c : Int)] 158) := (B6.out.setO _ _ hGE).drew
      have HS7 : HeldL G V E q p c (W5.setCell ⟨C, p, none⟩ (.int .i64 (c : Int))).drew := ⟨B6.out.cell 0 rfl, B6.out.cell 1 rfl, T6.out.dvr.cell 0 rfl⟩
      have fC := HT5.out.cst.fz p
      have yC := num_cell HT5.out.cst (j := p) (by rw [hDn.out.2.1]; exact hpq)
      have fE := HT5.out.don.fz p
      have yE := bool_cell T6.out.don (j := p) (by rw [hDn.out.1.1]; exact hpq)
      refine region_anyL (HeldL G V E q p c) 11 (by kernel_rfl) ?_
      refine anyL_tk (i := 0) (v := ?v0_1) aZ0 (by kernel_rfl) ?y0_1 HS6 ?r0_1
      case y0_1 => intro wx hx; obtain ⟨h1, h2, h3⟩ := hx; go_simp; try (with_reducible rfl)
      simp only [Act.put, List.setIfInBounds_toArray, List.set_cons_zero, List.set_cons_succ]
      refine anyL_tk (i := 1) (v := ?v1_2) aZ1 (by kernel_rfl) ?y1_2 HS6 ?r1_2
      case y1_2 => intro wx hx; obtain ⟨h1, h2, h3⟩ := hx; go_simp; try (with_reducible rfl)
      simp only [Act.put, List.setIfInBounds_toArray, List.set_cons_zero, List.set_cons_succ]
      refine anyL_tk (i := 2) (v := ?v2_3) aZ2 (by kernel_rfl) ?y2_3 HS6 ?r2_3
      case y2_3 => intro wx hx; obtain ⟨h1, h2, h3⟩ := hx; go_simp; try (with_reducible rfl)
      simp only [Act.put, List.setIfInBounds_toArray, List.set_cons_zero, List.set_cons_succ]
      refine anyL_tk (i := 3) (v := ?v3_4) aZ3 (by kernel_rfl) ?y3_4 HS6 ?r3_4
      case y3_4 => intro wx hx; obtain ⟨h1, h2, h3⟩ := hx; go_simp; try (with_reducible rfl)
      simp only [Act.put, List.setIfInBounds_toArray, List.set_cons_zero, List.set_cons_succ]
      refine anyL_tk (i := 4) (v := ?v4_5) aZ4 (by kernel_rfl) ?y4_5 HS6 ?r4_5
      case y4_5 => intro wx hx; obtain ⟨h1, h2, h3⟩ := hx; go_simp; try (with_reducible rfl)
      simp only [Act.put, List.setIfInBounds_toArray, List.set_cons_zero, List.set_cons_succ]
      refine anyL_tk (i := 5) (v := ?v5_6) aZ5 (by kernel_rfl) ?y5_6 HS6 ?r5_6
      case y5_6 => intro wx hx; obtain ⟨h1, h2, h3⟩ := hx; go_simp; try (with_reducible rfl)
      simp only [Act.put, List.setIfInBounds_toArray, List.set_cons_zero, List.set_cons_succ]
      refine anyL_tk (i := 6) (v := ?v6_7) aZ6 (by kernel_rfl) ?y6_7 HS6 ?r6_7
      case y6_7 => intro wx hx; obtain ⟨h1, h2, h3⟩ := hx; go_simp; try (with_reducible rfl)
      simp only [Act.put, List.setIfInBounds_toArray, List.set_cons_zero, List.set_cons_succ]
      refine anyL_tk (i := 7) (v := ?v7_8) aZ7 (by kernel_rfl) ?y7_8 HS6 ?r7_8
      case y7_8 => intro wx hx; obtain ⟨h1, h2, h3⟩ := hx; go_simp; try (with_reducible rfl)
      simp only [Act.put, List.setIfInBounds_toArray, List.set_cons_zero, List.set_cons_succ]
      refine anyL_tk (i := 8) (v := ?v8_9) aZ8 (by kernel_rfl) ?y8_9 HS6 ?r8_9
      case y8_9 => intro wx hx; obtain ⟨h1, h2, h3⟩ := hx; go_simp; try (with_reducible rfl)
      simp only [Act.put, List.setIfInBounds_toArray, List.set_cons_zero, List.set_cons_succ]
      refine anyL_one (i := 9) aZ9 (by kernel_rfl) rfl (fun K hK => ?_)
      go_simp
      refine hK _ _ (.inr HS7) ?_
      try simp only [Act.put, List.setIfInBounds_toArray, List.set_cons_zero, List.set_cons_succ]
      refine anyL_tk (i := 10) (v := ?v10_10) aZ10 (by kernel_rfl) ?y10_10 HS7 ?r10_10
      case y10_10 => intro wx hx; obtain ⟨h1, h2, h3⟩ := hx; go_simp; try (with_reducible rfl)
      simp only [Act.put, List.setIfInBounds_toArray, List.set_cons_zero, List.set_cons_succ]
      refine anyL_one (i := 11) aZ11 (by kernel_rfl) rfl (fun K hK => ?_)
      go_simp
      refine hK _ _ (.inl rfl) (anyL_done (by kernel_rfl) (NoPanic.normal ?_))
      try simp only [Act.put, List.setIfInBounds_toArray, List.set_cons_zero, List.set_cons_succ]
      clear HS6 HS7 fC yC fE yE
      generalize hW7 : ((W5.setCell ⟨C, p, none⟩ (.int .i64 (c : Int))).setCell ⟨E, p, none⟩ (.bool true)).drew = W7 at *
      clear hW7 T6 B6
      go_wp2
      obtain ⟨hcT, hRp⟩ := HRW.out p hpq
      have HS8 : HeldN G T p c (el rows p) W7.drew := ⟨B7.out.cell 0 rfl, B7.out.cell 1 rfl, (T7.out.below.cell (p := ⟨T, p, none⟩) (by assumption)).trans hcT⟩
      have HPP := hidP (put_any (D := updD D p c) w W7.drew C E V B q p c v5 (el rows p) hs5 _ _ T7.out.drew HS.out HNW.out (if_pos rfl) HPB.out HQ5.out.1 (by omega) (by omega) hRp hN hov2)
      refine region_anyL (HeldN G T p c (el rows p)) 1000 (by kernel_rfl) ?_
      refine anyL_tk (i := 0) (v := ?v0_11) aZ0 (by kernel_rfl) ?y0_11 HS8 ?r0_11
      case y0_11 => intro wx hx; obtain ⟨h1, h2, h3⟩ := hx; go_simp; try (with_reducible rfl)
      simp only [Act.put, List.setIfInBounds_toArray, List.set_cons_zero, List.set_cons_succ]
      refine anyL_tk (i := 1) (v := ?v1_12) aZ1 (by kernel_rfl) ?y1_12 HS8 ?r1_12
      case y1_12 => intro wx hx; obtain ⟨h1, h2, h3⟩ := hx; go_simp; try (with_reducible rfl)
      simp only [Act.put, List.setIfInBounds_toArray, List.set_cons_zero, List.set_cons_succ]
      refine anyL_tk (i := 2) (v := ?v2_13) aZ2 (by kernel_rfl) ?y2_13 HS8 ?r2_13
      case y2_13 => intro wx hx; obtain ⟨h1, h2, h3⟩ := hx; go_simp; try (with_reducible rfl)
      simp only [Act.put, List.setIfInBounds_toArray, List.set_cons_zero, List.set_cons_succ]
      refine anyL_tk (i := 3) (v := ?v3_14) aZ3 (by kernel_rfl) ?y3_14 HS8 ?r3_14
      case y3_14 => intro wx hx; obtain ⟨h1, h2, h3⟩ := hx; go_simp; try (with_reducible rfl)
      simp only [Act.put, List.setIfInBounds_toArray, List.set_cons_zero, List.set_cons_succ]
      refine anyL_tk (i := 4) (v := ?v4_15) aZ4 (by kernel_rfl) ?y4_15 HS8 ?r4_15
      case y4_15 => intro wx hx; obtain ⟨h1, h2, h3⟩ := hx; go_simp; try (with_reducible rfl)
      simp only [Act.put, List.setIfInBounds_toArray, List.set_cons_zero, List.set_cons_succ]
      refine anyL_tk (i := 5) (v := ?v5_16) aZ5 (by kernel_rfl) ?y5_16 HS8 ?r5_16
      case y5_16 => intro wx hx; obtain ⟨h1, h2, h3⟩ := hx; go_simp; try (with_reducible rfl)
      simp only [Act.put, List.setIfInBounds_toArray, List.set_cons_zero, List.set_cons_succ]
      refine anyL_tk (i := 6) (v := ?v6_17) aZ6 (by kernel_rfl) ?y6_17 HS8 ?r6_17
      case y6_17 => intro wx hx; obtain ⟨h1, h2, h3⟩ := hx; go_simp; try (with_reducible rfl)
      simp only [Act.put, List.setIfInBounds_toArray, List.set_cons_zero, List.set_cons_succ]
      refine anyL_tk (i := 7) (v := ?v7_18) aZ7 (by kernel_rfl) ?y7_18 HS8 ?r7_18
      case y7_18 => intro wx hx; obtain ⟨h1, h2, h3⟩ := hx; go_simp; try (with_reducible rfl)
      simp only [Act.put, List.setIfInBounds_toArray, List.set_cons_zero, List.set_cons_succ]
      refine anyL_one (i := 8) aZ8 (by kernel_rfl) rfl (fun K hK => ?_)
      go_simp
      refine HPP.out.mono ?_
      rintro e w8 ⟨rfl, v8, hs8, ht8, hd8, hh8, hl8, hu8⟩
      have B8 := hu8.blk B7.out.drew hGB HGR.out
      refine hK _ _ (.inr ⟨B8.cell 0 rfl, B8.cell 1 rfl, (ht8.below.cell (p := ⟨T, p, none⟩) (by assumption)).trans hcT⟩) (anyL_done (by kernel_rfl) (NoPanic.normal ?_))
      try simp only [Act.put, List.setIfInBounds_toArray, List.set_cons_zero, List.set_cons_succ]
      go_wp2
      have h30 := hI.out.2.2
      refine ⟨⟨updD D p c, hs8, v8, c, bs.set p true, cs.set p (c : Int), ⟨hd8, hh8, by omega⟩, ⟨HPB.out, HPC.out⟩, ht8⟩, ?_⟩
      rw [HMS.out, ht8.few, ht8.len]
      omega
     ·obtain ⟨d, hd⟩ := hDn.out.1.some hpq hf
      refine ⟨⟨D, hs5, v5, b, bs, cs, ⟨hI.out.1.old HQ5.out.2.1 hd, HQ5.out.1, by have := hI.out.2.2; omega⟩, hDn, HT5⟩, ?_⟩
      rw [HMS.out, HT5.out.few, HT5.out.len]
      omega
end Go.Proofs.YtfhjncpakgailaaGreatDoor.Dw
