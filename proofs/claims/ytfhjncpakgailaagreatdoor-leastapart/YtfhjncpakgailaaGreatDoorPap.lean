/- certain.textOf: a set's text (where the table of powers of ten that the standard library reads is as its text lays it). -/
import Derived.Test.YtfhjncpakgailaaGreatDoorPak
import Derived.Test.YtfhjncpakgailaaGreatDoorPao
import Derived.Test.YtfhjncpakgailaaGreatDoorPaj
import Derived.Test.YtfhjncpakgailaaGreatDoorPah
import Derived.Test.YtfhjncpakgailaaGreatDoorPab
import Derived.Test.YtfhjncpakgailaaGreatDoorPad
namespace Go.Proofs.YtfhjncpakgailaaGreatDoor.Wt
open Go.ChangeShapes Go.WideShapes Go.ChangeAt Go.RowKit
open Go.Proofs.YtfhjncpakgailaaGreatDoor.Pl
set_option linter.unusedVariables false
set_option linter.unusedSimpArgs false
def ShP (p : Pa) : Prop := 0 ≤ p.1 ∧ p.1 ≤ 100000 ∧ 0 ≤ p.2 ∧ p.2 ≤ 1000000000000
theorem txL_take {ps : List Pa} {k : Nat} (hk : k < ps.length) : txL (ps.take (k + 1)) = (((txL (ps.take k) ++ dgT (el ps k).1) ++ [58]) ++ dgT (el ps k).2) ++ [32] := by
 rw [take_el hk, txL_snoc]
theorem txL_take_len {ps : List Pa} (h : ∀ p ∈ ps, ShP p) (hl : ps.length ≤ 1000) (k : Nat) : (txL (ps.take k)).length ≤ 28000 := by
 have h1 := txL_len (l := ps.take k) (fun p hp => by have := h p (List.mem_of_mem_take hp); unfold ShP at this; omega)
 have h2 : (ps.take k).length ≤ 1000 := by rw [List.length_take]; omega
 omega
set_option maxRecDepth 100000 in
set_option maxHeartbeats 3200000 in
theorem textOf_any (base : Nat) (v : Value) (ps : List Pa) (w : World) (h : OwnP w base v ps) (ht : Tab w) (hs : ∀ p ∈ ps, ShP p) (h0 : ps ≠ []) (hl : ps.length ≤ 1000) :
  Calls Tryz.prog 139 #[v] w fun e w' => e = .returned (.string ⟨(txL ps).toArray⟩) ∧ Below w.heap.size w w' := by
 have HP := hidP h
 have HT := hidP ht
 have HS := hidP hs
 have HLN := hidP (txL_take_len hs hl)
 have HTL : Hid (∀ k, k < ps.length → txL (ps.take (k + 1)) = (((txL (ps.take k) ++ dgT (el ps k).1) ++ [58]) ++ dgT (el ps k).2) ++ [32]) := fun k hk => txL_take hk
 have HALL : Hid (txL (ps.take ps.length) = txL ps) := by show _ = _; rw [List.take_length]
 have HNE : Hid (txL ps ≠ []) := fun e => h0 (by
  cases ps with
  | nil => rfl
  | cons p l => have h9 := congrArg List.length e; simp [txL, txP] at h9)
 have HEL : Hid (∀ k, k < ps.length → ShP (el ps k)) := fun k hk => hs _ (el_mem hk)
 obtain ⟨a, cap, rfl⟩ := h.sl
 have HB0 : Hid (Bld w.heap.size w.heap.size [] (w.alloc (.cells #[.pointer none, .slice none 0 0] 198))) := Bld.made w
 have HW0 : Hid (Below w.heap.size w (w.alloc (.cells #[.pointer none, .slice none 0 0] 198))) := (Below.refl _ _).alloc (Nat.le_refl _) _
 clear h ht hs h0
 obtain ⟨n, hn⟩ : ∃ n, ps.length = n := ⟨_, rfl⟩
 rw [hn] at hl HP HTL HALL HEL ⊢
 have HN := hidP hn
 clear hn
 go_enter Tryz.func139, Tryz.ntmps139
 go_wp2
 go_loopw [8] (fun i wr => ∃ k : Nat, k ≤ n ∧ i = .int .i64 k ∧ Hid (Bld w.heap.size w.heap.size (txL (ps.take k)) wr) ∧ Hid (Below w.heap.size w wr)) (fun i _ => n - (intOf i).toNat)
 case atStart => exact ⟨0, Nat.zero_le _, rfl, HB0, HW0⟩
 case round =>
  clear HB0 HW0
  obtain ⟨k, hk, rfl, hB, hW⟩ := hrel
  obtain ⟨w1, hw1⟩ : ∃ w1, w1 = wr := ⟨_, rfl⟩
  subst hw1
  by_cases hlt : k < n
  ·have k0 : (0 : Int) ≤ (k : Int) := Int.natCast_nonneg _
   have k1 : (k : Int) < (n : Int) := by omega
   obtain ⟨b, off, hab, hbl, c0, c1⟩ := HP.out.cell (j := k) (by rw [HN.out]; exact hlt)
   subst hab
   have c0 := (hW.out.cell (p := ⟨b, off + k * 2, none⟩) hbl).trans c0
   have c1 := (hW.out.cell (p := ⟨b, off + k * 2 + 1, none⟩) hbl).trans c1
   have hsh := HEL.out k hlt
   have HTK := hidP (HTL.out k hlt)
   have HL1 := hidP (HLN.out k)
   obtain ⟨pk, hpk⟩ : ∃ pk, el ps k = pk := ⟨_, rfl⟩
   rw [hpk] at c0 c1 hsh HTK
   clear hpk
   obtain ⟨p0, p1⟩ := pk
   simp only [ShP] at hsh c0 c1 HTK
   obtain ⟨s0, hs0⟩ : ∃ s0 : ByteArray, ⟨(dgT p0).toArray⟩ = s0 := ⟨_, rfl⟩
   obtain ⟨s1, hs1⟩ : ∃ s1 : ByteArray, ⟨(dgT p1).toArray⟩ = s1 := ⟨_, rfl⟩
   have e0 : s0.data.toList = dgT p0 := by rw [← hs0]
   have e1 : s1.data.toList = dgT p1 := by rw [← hs1]
   have z0 : s0.size ≤ 13 := by rw [← hs0]; exact dgT_len (by omega)
   have z1 : s1.size ≤ 13 := by rw [← hs1]; exact dgT_len (by omega)
   have HI0 := hidP (fun W hW => itoa_dg p0 W hW hsh.1 (by omega) s0 hs0)
   have HI1 := hidP (fun W hW => itoa_dg p1 W hW hsh.2.2.1 (by omega) s1 hs1)
   have E0 := hidP e0
   have E1 := hidP e1
   have hq0 : s0.data.toList.length ≤ 13 := z0
   have hq1 : s1.data.toList.length ≤ 13 := z1
   obtain ⟨T, hT⟩ : ∃ T, txL (ps.take k) = T := ⟨_, rfl⟩
   rw [hT] at hB HTK HL1
   rw [← e0, ← e1] at HTK
   have HLA : Hid (T.length ≤ 1000000 ∧ (T ++ s0.data.toList).length ≤ 1000000 ∧ (T ++ s0.data.toList ++ [58]).length ≤ 1000000 ∧ (T ++ s0.data.toList ++ [58] ++ s1.data.toList).length ≤ 1000000) := by
    have := HL1.out
    simp only [List.length_append, List.length_cons, List.length_nil]
    exact ⟨by omega, by omega, by omega, by omega⟩
   clear hT hs0 hs1 e0 e1 hsh HL1
   have hA := (Below.refl w1.heap.size w1).alloc (Nat.le_refl _) (.cells #[.int .i64 p0, .int .i64 p1] 84)
   have KP := hidP (Blk.made w1 #[.int .i64 p0, .int .i64 p1] 84)
   have B1 := hidP (hB.out.later hA)
   have W1 := hidP (hW.out.trans (hA.mono hW.out.size))
   have hws := hW.out.size
   clear hA hB hW
   go_wp2_with (first
    | (go_at_call 159; (with_reducible refine (HI0.out _ (HT.out.later W1.out)).mono ?_); rintro e w2 ⟨rfl, hb2⟩; have KP2 := hidP (KP.out.below hb2 KP.out.lt); have B2 := hidP (B1.out.later hb2); have W2 := hidP (W1.out.trans (hb2.mono W1.out.size)); clear hb2 KP B1 W1 HI0)
    | (go_at_call 158; (with_reducible refine (write_bytes _ _ _ s0 _ B2.out HLA.out.1 (by omega) W2.out.size).mono ?_); rintro e w3 ⟨rfl, hB3, hb3, ho3⟩; have KP3 := hidP (ho3.blk KP2.out (by decide) (by decide)); have B3 := hidP hB3; have W3 := hidP (W2.out.trans hb3); clear hB3 hb3 ho3 KP2 B2 W2)
    | (go_at_call 160; (with_reducible refine (writeByte_any _ _ _ 58 58 _ B3.out rfl HLA.out.2.1 W3.out.size).mono ?_); rintro e w4 ⟨rfl, hB4, hb4, ho4⟩; have KP4 := hidP (ho4.blk KP3.out (by decide) (by decide)); have d1 := KP4.out.cell 1 (v := .int .i64 p1) rfl; have B4 := hidP hB4; have W4 := hidP (W3.out.trans hb4); clear hB4 hb4 ho4 KP3 B3 W3)
    | (go_at_call 159; (with_reducible refine (HI1.out _ (HT.out.later W4.out)).mono ?_); rintro e w5 ⟨rfl, hb5⟩; have B5 := hidP (B4.out.later hb5); have W5 := hidP (W4.out.trans (hb5.mono W4.out.size)); clear hb5 KP4 B4 W4 HI1)
    | (go_at_call 158; (with_reducible refine (write_bytes _ _ _ s1 _ B5.out HLA.out.2.2.1 (by omega) W5.out.size).mono ?_); rintro e w6 ⟨rfl, hB6, hb6, ho6⟩; have B6 := hidP hB6; have W6 := hidP (W5.out.trans hb6); clear hB6 hb6 ho6 B5 W5)
    | (go_at_call 160; (with_reducible refine (writeByte_any _ _ _ 32 32 _ B6.out rfl HLA.out.2.2.2 W6.out.size).mono ?_); rintro e w7 ⟨rfl, hB7, hb7, ho7⟩; have B7 := hidP hB7; have W7 := hidP (W6.out.trans hb7); clear hB7 hb7 ho7 B6 W6))
   go_roundw
   case rel => exact ⟨k + 1, by omega, by go_num, by rw [HTK.out]; exact B7, W7⟩
   case measure => simp [intOf]; omega
  ·have hk1 : ¬ (k : Int) < (n : Int) := by omega
   obtain rfl : k = n := by omega
   rw [HALL.out] at hB
   go_wp2_with (first
    | (go_at_call 161; (with_reducible refine (string_any _ _ _ _ hB.out HNE.out).mono ?_); rintro e w2 ⟨rfl, hb2⟩; have W2 := hidP (hW.out.trans hb2); clear hb2))
   go_ret
   exact ⟨rfl, W2.out⟩
end Go.Proofs.YtfhjncpakgailaaGreatDoor.Wt
namespace Go.Proofs.YtfhjncpakgailaaGreatDoor.Wt
open Go.ChangeShapes Go.WideShapes Go.ChangeAt Go.RowKit Go.Maps
open Go.Proofs.YtfhjncpakgailaaGreatDoor.Pl
set_option linter.unusedVariables false
set_option linter.unusedSimpArgs false
def MakK (b : Nat) (w w' : World) : Prop := w.heap.size ≤ w'.heap.size ∧ ∀ k cs t, Blk w k cs t → k ≠ b → t ≠ 86 → Blk w' k cs t
theorem MakK.trans {b : Nat} {w w1 w2 : World} (h : MakK b w w1) (k : MakK b w1 w2) : MakK b w w2 := ⟨Nat.le_trans h.1 k.1, fun q cs t hb h1 h2 => k.2 q cs t (h.2 q cs t hb h1 h2) h1 h2⟩
theorem MakK.of {b : Nat} {w w' : World} (h : Below w.heap.size w w') : MakK b w w' := ⟨h.size, fun k cs t hb _ _ => hb.below h hb.lt⟩
theorem MakK.set {b o : Nat} {w : World} {v : Value} : MakK b w (w.setCell ⟨b, o, none⟩ v) := ⟨by simp [World.setCell], fun k cs t hb h1 _ => hb.setO _ _ h1⟩
theorem MakK.sets {b base : Nat} {w w' : World} {v : Value} {L : List (List Pa)} (ho : SetsM w base v L) (hg : w.grownBy w' v.ownBlock) : MakK b w w' := by
 obtain ⟨ss, _, h2, _⟩ := ho
 exact ⟨hg.size, fun k cs t hb _ h3 => hb.grown hg (own_ne h2 hb (Ne.symm h3))⟩
theorem MakK.map {b m : Nat} {w w' : World} {ks : List (List UInt8)} (hm : TxM w m ks) (hg : w.grownBy w' (some m)) : MakK b w w' := ⟨hg.size, fun k cs t hb _ h2 => hb.grown hg (fun e => by injection e with e; exact hm.neBlk hb e.symm)⟩
theorem MakK.row {b base : Nat} {w w' : World} {e : TypeId} {s : Nat} {v : Value} {n : Nat} {xs : List Value} (hK : MakK b w w') (ho : w.ownsRow base e s v n xs) (he : e ≠ 86) (hb : some b ≠ v.ownBlock) : w'.ownsRow base e s v n xs := by
 refine ⟨ho.1, ?_⟩
 rcases ho.2 with hn | ⟨g, cap, cur, rfl, hbg, hgg, rest⟩
 ·exact .inl hn
 ·exact .inr ⟨g, cap, cur, rfl, hbg, hK.2 g cur e hgg (fun e => hb (by simp [Value.ownBlock, e])) he, rest⟩
theorem MakK.sts {b base : Nat} {w w' : World} {v : Value} {l : List St} {cs : Array Value} (hK : MakK b w w') (hb : Blk w b cs 81) (ho : OwnSts w base v l) : OwnSts w' base v l := by
 obtain ⟨vs, h1, h2, h3⟩ := ho
 exact ⟨vs, hK.row h1 (by decide) (own_ne h1 hb (by decide)), h2, fun j hj => ⟨(h3 j hj).1, hK.row (h3 j hj).2 (by decide) (own_ne (h3 j hj).2 hb (by decide))⟩⟩
structure MakN (w : World) (base b mb : Nat) (vt vs : Value) (L : List (List Pa)) (n : Int) : Prop where
 blk : Blk w b #[.map (some mb), vt, vs, .int .i64 n] 81
 tr : TxM w mb (L.map txL)
 trs : SetsM w base vt L
 hb : base ≤ b
 hm : base ≤ mb
section
variable {w w' : World} {base b mb : Nat} {vt vs : Value} {L : List (List Pa)} {n : Int}
theorem MakN.later (h : MakN w base b mb vt vs L n) (hb : Below w.heap.size w w') : MakN w' base b mb vt vs L n :=
 ⟨h.blk.below hb h.blk.lt, h.tr.keep (hb.block _ h.tr.lt), h.trs.later hb, h.hb, h.hm⟩
theorem MakN.ne (h : MakN w base b mb vt vs L n) : b ≠ mb := Ne.symm (h.tr.neBlk h.blk)
end
theorem SetsM.keptM {w w' : World} {base m : Nat} {v : Value} {L : List (List Pa)} {ks : List (List UInt8)} (h : SetsM w base v L) (hm : TxM w m ks) (hg : w.grownBy w' (some m)) : SetsM w' base v L := by
 obtain ⟨ss, h1, h2, h3⟩ := h
 exact ⟨ss, h1, h2.kept hg (.inr (Ne.symm (hm.neRow h2))), fun j hj => World.ownsRow.kept (h3 j hj) hg (.inr (Ne.symm (hm.neRow (h3 j hj))))⟩
def NumOf (L : List (List Pa)) (ps : List Pa) (jx : Nat) : Prop := (ps ∈ L → jx < L.length ∧ el L jx = ps) ∧ (ps ∉ L → jx = L.length)
set_option maxRecDepth 100000 in
set_option maxHeartbeats 3200000 in
theorem makNum_any (base b mb : Nat) (vt vs : Value) (L : List (List Pa)) (n : Int) (a : Option Addr) (np c : Nat) (ps : List Pa) (W : World) (h : MakN W base b mb vt vs L n) (hP : OwnP W base (.slice a np c) ps) (ht : Tab W) (hs : ∀ p ∈ ps, ShP p) (h0 : ps ≠ []) (hpl : ps.length ≤ 1000) (hLs : ∀ qs ∈ L, ∀ p ∈ qs, ShP p) (hN : L.Nodup) (hl : L.length < 100000) (hbW : base ≤ W.heap.size) :
  Calls Tryz.prog 99 #[.pointer (some ⟨b, 0, none⟩), .slice a np c] W fun e W' => ∃ jx : Nat, e = .returned (.int .i64 (jx : Int)) ∧ NumOf L ps jx ∧ (∃ vt', MakN W' base b mb vt' vs (addG L ps) n) ∧ MakK b W W' ∧ Below base W W' := by
 have hinj : ∀ qs ∈ L, txL qs = txL ps → qs = ps := fun qs hq e => txL_inj (fun p hp => by have := hLs qs hq p hp; unfold ShP at this; omega) (fun p hp => by have := hs p hp; unfold ShP at this; omega) e
 have hNT : (L.map txL).Nodup := by
  rw [List.nodup_iff_pairwise_ne, List.pairwise_map]
  exact hN.imp_of_mem fun {x y} hx hy hxy e => hxy (txL_inj (fun p hp => by have := hLs x hx p hp; unfold ShP at this; omega) (fun p hp => by have := hLs y hy p hp; unfold ShP at this; omega) e)
 have hlen : (txL ps).length ≤ 1000000 := by
  have h1 := txL_len (l := ps) (fun p hp => by have := hs p hp; unfold ShP at this; omega)
  omega
 have HTX := hidP (textOf_any base (.slice a np c) ps W hP ht hs h0 hpl)
 have H := hidP h
 have HP := hidP hP
 have bl := h.blk.lt
 by_cases hmem : ps ∈ L
 ·obtain ⟨i, hi, hei⟩ := mem_el hmem
  have HI : Hid (el (L.map txL) i = txL ps) := by show _ = _; rw [el_map hi, hei]
  have HLK : Hid (∀ W', Below W.heap.size W W' → (Instr.lookup 78 (.map (some mb)) (.string ⟨(txL ps).toArray⟩) true).run Tryz.prog W' = .ok (.tuple #[.int .i64 (i : Int), .bool true]) W') := fun W' hW => (h.later hW).tr.look_old hlen hNT (by rw [List.length_map]; exact hi) HI.out
  have HNO : Hid (NumOf L ps i) := ⟨fun _ => ⟨hi, hei⟩, fun g => absurd hmem g⟩
  have HAD := hidP (addG_old hmem)
  clear h hP ht hs h0 hLs hN hinj hNT hlen hmem hei HI hi
  generalize (⟨(txL ps).toArray⟩ : ByteArray) = tx at HTX HLK
  go_enter Tryz.func99, Tryz.ntmps99
  go_wp2_with (first
   | (go_at_call 139; (with_reducible refine HTX.out.mono ?_); rintro e w2 ⟨rfl, hb2⟩; have hlk := HLK.out w2 hb2; have H2 := hidP (H.out.later hb2); have c0 := H2.out.blk.cell 0 (v := .map (some mb)) rfl; have HB2 := hidP hb2; clear hb2 HLK HTX))
  go_ret
  exact ⟨i, rfl, HNO.out, ⟨vt, by rw [HAD.out]; exact H2.out⟩, MakK.of HB2.out, HB2.out.mono hbW⟩
 ·have hno : txL ps ∉ L.map txL := fun g => by
   obtain ⟨qs, hq, e⟩ := List.mem_map.1 g
   exact hmem (hinj qs hq e ▸ hq)
  have HLK : Hid (∀ W', Below W.heap.size W W' → (Instr.lookup 78 (.map (some mb)) (.string ⟨(txL ps).toArray⟩) true).run Tryz.prog W' = .ok (.tuple #[.int .i64 0, .bool false]) W') := fun W' hW => (h.later hW).tr.look_new hlen hno
  have HNO : Hid (NumOf L ps L.length) := ⟨fun g => absurd g hmem, fun _ => rfl⟩
  have HAD := hidP (addG_new hmem)
  have HUP : Hid (∀ W', Below W.heap.size W W' → ∃ w', (Instr.mapUpdate 78 (.map (some mb)) (.string ⟨(txL ps).toArray⟩) (.int .i64 (L.length : Int))).run Tryz.prog W' = .ok () w' ∧ TxM w' mb ((L ++ [ps]).map txL) ∧ W'.grownBy w' (some mb)) := fun W' hW => by
   obtain ⟨w9, h1, h2, h3⟩ := (h.later hW).tr.put hlen hno (by rw [List.length_map]; exact hl)
   rw [List.length_map] at h1
   exact ⟨w9, h1, by rw [List.map_append]; exact h2, h3⟩
  obtain ⟨at0, ct0, hvt⟩ := h.trs.sl
  clear h hP ht hs h0 hLs hN hinj hNT hlen hmem hno
  generalize (⟨(txL ps).toArray⟩ : ByteArray) = tx at HTX HLK HUP
  subst hvt
  obtain ⟨nL, hnL⟩ : ∃ nL, L.length = nL := ⟨_, rfl⟩
  rw [hnL] at HNO HUP H hl
  have HNL := hidP hnL
  clear hnL
  go_enter Tryz.func99, Tryz.ntmps99
  go_wp2_with (first
   | (go_at_call 139; (with_reducible refine HTX.out.mono ?_); rintro e w2 ⟨rfl, hb2⟩; have hlk := HLK.out w2 hb2; have H2 := hidP (H.out.later hb2); have P2 := hidP (HP.out.later hb2); have c0 := H2.out.blk.cell 0 (v := .map (some mb)) rfl; have c1 := H2.out.blk.cell 1 (v := .slice at0 nL ct0) rfl; have HB2 := hidP hb2; obtain ⟨w4, hup, hM4, hg4⟩ := HUP.out w2 hb2; have B4 := hidP (H2.out.blk.grown hg4 (fun e => H2.out.ne (by injection e))); have S4 := hidP (H2.out.trs.keptM H2.out.tr hg4); have P4 : Hid (OwnP w4 base (.slice a np c) ps) := (World.ownsRow.kept P2.out hg4 (.inr (Ne.symm (H2.out.tr.neRow P2.out)))); have K4 := hidP ((MakK.of (b := b) hb2).trans (MakK.map H2.out.tr hg4)); have W4 := hidP ((hb2.mono hbW).grown hg4 (Nat.le_trans hbW hb2.size) (fun k hk => by cases hk; exact H2.out.hm)); have M4 := hidP hM4; have d1 := B4.out.cell 1 (v := .slice at0 nL ct0) rfl; obtain ⟨v6, w6, hr6, ho6, hb6, hg6⟩ := S4.out.push P4.out (by rw [HNL.out]; omega) (Nat.le_trans hbW W4.out.size); have HR6 := hidP hr6; have hA6 := (Below.refl w4.heap.size w4).alloc (Nat.le_refl _) (.cells #[.slice a np c] 86); have SA := S4.out.later hA6; have B6 := hidP ((B4.out.below hA6 B4.out.lt).grown hg6 (by obtain ⟨ss, _, hh, _⟩ := SA; exact own_ne hh (B4.out.below hA6 B4.out.lt) (by decide))); have M6 := hidP ((M4.out.keep (hA6.block _ M4.out.lt)).keep (hg6.block _ (Nat.lt_of_lt_of_le M4.out.lt hA6.size) (by obtain ⟨ss, _, hh, _⟩ := SA; exact (M4.out.keep (hA6.block _ M4.out.lt)).neRow hh))); have K6 := hidP ((K4.out.trans (MakK.of hA6)).trans (MakK.sets SA hg6)); have W6 := hidP (W4.out.trans hb6); have S6 := hidP ho6; obtain ⟨a6, n6, c6, hv6⟩ := (by obtain ⟨x, y, e⟩ := ho6.sl; exact ⟨x, _, y, e⟩ : ∃ x n y, v6 = .slice x n y); subst hv6; have f1 := B6.out.fz 1; have g1 := B6.out.cell 1 (v := .slice at0 nL ct0) rfl; clear hb2 HLK HTX HUP hM4 hg4 hr6 ho6 hb6 hg6 hA6 SA S4 P4 P2)
   | (at_builtin; refine wpListAppendRun rfl _ _ 79 rfl rfl rfl HR6.out ?_))
  go_ret
  have S7 : SetsM (w6.setCell ⟨b, 1, none⟩ (.slice a6 n6 c6)) base (.slice a6 n6 c6) (L ++ [ps]) := S6.out.setB B6.out (by decide) (by decide) 1 _
  exact ⟨nL, rfl, HNO.out, ⟨_, by rw [HAD.out]; exact ⟨B6.out.set 1 _, M6.out.keep (Below.heap_setCell w6 ⟨b, 1, none⟩ _ mb (M6.out.neBlk B6.out)), S7, H.out.hb, H.out.hm⟩⟩, K6.out.trans MakK.set, W6.out.setCell (p := ⟨b, 1, none⟩) H.out.hb _⟩
set_option maxRecDepth 100000 in
theorem makFull_any (base b mb : Nat) (vt vs : Value) (L : List (List Pa)) (n : Int) (W : World) (h : MakN W base b mb vt vs L n) (r : Bool) (hr : decide (400 < n ∨ 60 < L.length) = r) :
  Calls Tryz.prog 104 #[.pointer (some ⟨b, 0, none⟩)] W fun e W' => e = .returned (.bool r) ∧ W = W' := by
 obtain ⟨at0, ct0, hvt⟩ := h.trs.sl
 subst hvt
 have c3 := h.blk.cell 3 (v := .int .i64 n) rfl
 have c1 := h.blk.cell 1 (v := .slice at0 L.length ct0) rfl
 clear h
 generalize L.length = nL at *
 by_cases h1 : 400 < n
 ·have HR : Hid (r = true) := by show _ = _; rw [← hr]; exact decide_eq_true (.inl h1)
  clear hr
  go_enter Tryz.func104, Tryz.ntmps104
  go_wp2
  go_ret
  exact ⟨by rw [HR.out]; rfl, rfl⟩
 ·by_cases h2 : 60 < nL
  ·have HR : Hid (r = true) := by show _ = _; rw [← hr]; exact decide_eq_true (.inr h2)
   have h2' : (60 : Int) < (nL : Int) := by omega
   have h1' : decide (400 < n) = false := decide_eq_false h1
   clear hr
   go_enter Tryz.func104, Tryz.ntmps104
   go_wp2
   go_ret
   exact ⟨by rw [HR.out]; rfl, rfl⟩
  ·have HR : Hid (r = false) := by show _ = _; rw [← hr]; exact decide_eq_false (fun g => g.elim h1 h2)
   have h2' : ¬ (60 : Int) < (nL : Int) := by omega
   have h1' : decide (400 < n) = false := decide_eq_false h1
   clear hr
   go_enter Tryz.func104, Tryz.ntmps104
   go_wp2
   go_ret
   exact ⟨by rw [HR.out]; rfl, rfl⟩
end Go.Proofs.YtfhjncpakgailaaGreatDoor.Wt
namespace Go.Proofs.YtfhjncpakgailaaGreatDoor.Pl
set_option linter.unusedVariables false
set_option linter.unusedSimpArgs false
theorem SetN.mono {n : Nat} {B C : Int} {S : List Int} (h : SetN n B S) (hc : B ≤ C) : SetN n C S := ⟨h.len, fun q hq => (h.rng q hq).imp id fun g => ⟨g.1, Int.le_trans g.2 hc⟩⟩
section
variable {m : Mc} {z : Nat} {L : List (List Int)} {X : List St} {W : Int}
theorem cer_sets (hf : faultM m = 0) (hz : z < m.2.length) (hW : 0 ≤ W ∧ W ≤ 1000000000) (hw : ∀ q a, a ∈ (el m.2 q).2 → a.2.2.1 ≤ W) {q : Nat} (hE : ExpI (finC m.2) (hopsC m.2) (iniS m.2.length z) q L X) : ∀ i, i < L.length → SetN m.2.length (W * i) (el L i) := by
  intro i
  induction i using Nat.strongRecOn with
  | _ i ih =>
    intro hi
    by_cases h0 : i = 0
    · subst h0
      rw [hE.zero.2.1]
      simpa using iniS_set hz
    · obtain ⟨j, h, h1, _, h2, h3⟩ := hE.led i (by omega) hi
      have hS := ih j h1 (by omega)
      unfold hopsC at h2
      obtain ⟨p, hp, rfl⟩ := List.mem_map.1 h2
      have hl := hE.l60
      have hb : W * (j : Int) ≤ 1000000000 * 60 := by
        have h4 : W * (j : Int) ≤ 1000000000 * (j : Int) := Int.mul_le_mul_of_nonneg_right hW.2 (by omega)
        omega
      have h5 := (hop_facts hf hS hw (by unfold noneI; omega) hp).2.2.1
      rw [h3] at h5
      refine h5.mono ?_
      have e : W * (j : Int) + W = W * ((j : Int) + 1) := by rw [Int.mul_add, Int.mul_one]
      rw [e]
      exact Int.mul_le_mul_of_nonneg_left (by omega) hW.1
theorem cer_set (hf : faultM m = 0) (hz : z < m.2.length) {q : Nat} (hE : ExpI (finC m.2) (hopsC m.2) (iniS m.2.length z) q L X) {t : List Int} (ht : t ∈ L) : SetN m.2.length 60000000000 t := by
 obtain ⟨h1, h2⟩ := el_idxG ht
 have h3 := cer_sets (W := 1000000000) hf hz (by omega) (fun q a ha => (arc_low hf (el_in ha) ha).2.1) hE _ h1
 rw [h2] at h3
 have := hE.l60
 exact h3.mono (by omega)
end
section
variable {α : Type} [DecidableEq α]
theorem numH_err (hs : List (Hg α)) : ∀ (L : List α) (n : Nat), (∀ h ∈ hs, h.2.2.1 ≤ 1000000000) → (numH hs L n).1 = 0 ∨ (numH hs L n).1 = 5 := by
  induction hs with
  | nil => intro L n _; exact .inl rfl
  | cons h hs ih =>
    intro L n hl
    simp only [numH]
    rw [if_neg (by have := hl h List.mem_cons_self; omega)]
    split
    · exact .inr rfl
    · exact ih _ _ fun k hk => hl k (List.mem_cons_of_mem _ hk)
end
section
variable {α : Type} [DecidableEq α] [Inhabited α] {fin : α → Int × Int} {hops : α → List (Hg α)}
theorem numS_full {s0 : α} (H : ∀ q L S, ExpI fin hops s0 q L S → ∀ i, i < L.length → (fin (el L i)).2 = 0 ∧ ∀ h ∈ hops (el L i), h.2.2.1 ≤ 1000000000) : ∀ (k q : Nat) (L : List α) (S : List St) (n : Nat), ExpI fin hops s0 q L S → numS fin hops k q L S n = ((0, []), 5) ∨ ∃ x, numS fin hops k q L S n = (x, 0) := by
  intro k
  induction k with
  | zero => intro q L S n _; exact .inl rfl
  | succ k ih =>
    intro q L S n h
    simp only [numS]
    by_cases hq : q < L.length
    · obtain ⟨h1, h2⟩ := H q L S h q hq
      rw [if_pos hq, if_neg (fun g => g h1)]
      rcases numH_err (hops (el L q)) L n h2 with e | e
      · rw [if_neg (fun g => g e)]
        exact ih _ _ _ _ (h.step hq h1 e)
      · rw [if_pos (by rw [e]; decide), e]
        exact .inl rfl
    · rw [if_neg hq]
      exact .inr ⟨_, rfl⟩
theorem numA_full {s0 : α} (H : ∀ q L S, ExpI fin hops s0 q L S → ∀ i, i < L.length → (fin (el L i)).2 = 0 ∧ ∀ h ∈ hops (el L i), h.2.2.1 ≤ 1000000000) : numA fin hops s0 = ((0, []), 5) ∨ ∃ x, numA fin hops s0 = (x, 0) := numS_full H _ _ _ _ _ (ExpI.init fin hops s0)
theorem numS_arcs {s0 : α} : ∀ (k q : Nat) (L : List α) (S : List St) (n : Nat) (x : Mc), ExpI fin hops s0 q L S → arcN S = n → n ≤ 400 → numS fin hops k q L S n = (x, 0) → arcN x.2 ≤ 400 := by
  intro k
  induction k with
  | zero => intro q L S n x _ _ _ e; simp only [numS, Prod.mk.injEq] at e; exact absurd e.2 (by decide)
  | succ k ih =>
    intro q L S n x h ha h4 e
    simp only [numS] at e
    split at e
    · rename_i hq
      split at e
      · rename_i he
        simp only [Prod.mk.injEq] at e
        exact absurd e.2 he
      · rename_i he
        split at e
        · rename_i h0; simp only [Prod.mk.injEq] at e; exact absurd e.2 h0
        · rename_i h0
          have h0' : (numH (hops (el L q)) L n).1 = 0 := by simpa using h0
          obtain ⟨_, _, _, f4, _, f6⟩ := numH_facts (hops (el L q)) L n h.nodup h0'
          refine ih _ _ _ _ _ (h.step hq (by simpa using he) h0') ?_ (f6 h4) e
          rw [arcN_append, ha, f4]
          simp [arcN]
    · simp only [Prod.mk.injEq] at e
      obtain ⟨rfl, _⟩ := e
      simp only
      omega
theorem numA_arcs {s0 : α} {x : Mc} (h : numA fin hops s0 = (x, 0)) : arcN x.2 ≤ 400 := numS_arcs _ _ _ _ _ _ (ExpI.init fin hops s0) rfl (by simp [arcN]) h
end
section
variable {α β : Type} [DecidableEq α] [DecidableEq β] [Inhabited α] [Inhabited β] {fin : α → Int × Int} {hops : α → List (Hg α)} {fin' : β → Int × Int} {hops' : β → List (Hg β)} {g : Nat → β}
end
def NineL (l : List St) : Prop := ∀ s ∈ l, (s.1 ≠ 1000000001 → s.1 ≤ 9) ∧ ∀ a ∈ s.2, a.2.2.1 ≤ 9
def LowL (W : Int) (l : List St) : Prop := ∀ s ∈ l, (s.1 ≠ 1000000001 → s.1 ≤ W) ∧ ∀ a ∈ s.2, a.2.2.1 ≤ W
theorem finB_may {n : Int} (h : n = 1000000001 ∨ (0 ≤ n ∧ n ≤ 1000000000)) : finB n = true := by
 simp only [finB, inB, Bool.or_eq_true, Bool.and_eq_true, decide_eq_true_eq]
 exact h
theorem arcB_may {n : Nat} {x : Ar} (h1 : 0 ≤ x.1 ∧ x.1 ≤ 1000) (h2 : 0 ≤ x.2.1 ∧ x.2.1 ≤ 1000) (h3 : 0 ≤ x.2.2.1 ∧ x.2.2.1 ≤ 1000000000) (h4 : 0 ≤ x.2.2.2 ∧ x.2.2.2 < (n : Int)) : arcB n x = true := by
 simp only [arcB, inB, Bool.and_eq_true, decide_eq_true_eq]
 omega
theorem made_nine (r : Int × List (Int × Bool × List Ar)) (states : Nat) (full : Bool) : NineL (madeM r states full).2 := fun s hs => by
 simp only [madeM, statesM, List.mem_map] at hs
 obtain ⟨q, _, rfl⟩ := hs
 split
 ·exact ⟨fun _ => by simp, fun a ha => absurd ha (by simp)⟩
 ·refine ⟨fun h => ?_, fun a ha => ?_⟩
  ·unfold stM at h ⊢
   simp only at h ⊢
   split
   ·have := pkR_bd (el r.2 q).1 10 (by omega); omega
   ·rename_i g; rw [if_neg g] at h; exact absurd rfl h
  ·simp only [stM, List.mem_map] at ha
   obtain ⟨e, _, rfl⟩ := ha
   unfold arM
   have := pkR_bd e.2.2.1 10 (by omega)
   simp only
   omega
section
variable {m x : Mc} {S : List Int} {B : Int}
theorem fns_low (hf : faultM m = 0) (hS : SetN m.2.length B S) {W : Int} (hw : ∀ q, q < m.2.length → (el m.2 q).1 ≠ 1000000001 → (el m.2 q).1 ≤ W) {c : Int} (h : c ∈ fnsL m.2 S) : 0 ≤ c ∧ c ≤ B + W := by
 obtain ⟨q, hq, h1, h2, rfl⟩ := mem_fnsL.1 h
 have h3 := (fin_small hf hq h2).1
 have h4 := hw q hq h2
 rcases hS.rng q hq with h5 | h5
 ·exact absurd h5 h1
 ·omega
theorem fin_facts (hf : faultM m = 0) (hS : SetN m.2.length B S) (hB : B + 1000000000 < noneI) (h0 : (finC m.2 S).2 = 0) :
  ((finC m.2 S).1 = 1000000001 ∧ fnsL m.2 S = []) ∨ (0 ≤ (finC m.2 S).1 ∧ (finC m.2 S).1 ≤ 1000000000 ∧ (finC m.2 S).1 ∈ fnsL m.2 S ∧ ∀ c ∈ fnsL m.2 S, (finC m.2 S).1 ≤ c) := by
 have hl : ∀ c ∈ fnsL m.2 S, 0 ≤ c ∧ c ≤ B + 1000000000 := fun c h => fns_low hf hS (fun q hq hn => (fin_small hf hq hn).2) h
 unfold finC at h0 ⊢
 simp only at h0 ⊢
 rcases mnL_mem (fnsL m.2 S) with h | h
 ·left
  refine ⟨by unfold tldN; rw [if_pos h], (mnL_empty fun c hc => ?_).1 h⟩
  have := hl c hc
  omega
 ·right
  have h1 := hl _ h
  have hn : mnL (fnsL m.2 S) ≠ noneI := by omega
  unfold tldE at h0
  rw [if_neg hn] at h0
  have h2 : ¬ 1000000000 < mnL (fnsL m.2 S) := fun g => by rw [if_pos g] at h0; cases h0
  have e : tldN (mnL (fnsL m.2 S)) = mnL (fnsL m.2 S) := by unfold tldN; rw [if_neg hn, if_neg h2]
  rw [e]
  exact ⟨h1.1, by omega, h, fun c hc => mnL_le hc⟩
theorem fin_ok (hf : faultM m = 0) (hS : SetN m.2.length B S) {W : Int} (hw : ∀ q, q < m.2.length → (el m.2 q).1 ≠ 1000000001 → (el m.2 q).1 ≤ W) (hB : B + W ≤ 1000000000) : (finC m.2 S).2 = 0 ∧ ((finC m.2 S).1 ≠ 1000000001 → (finC m.2 S).1 ≤ B + W) := by
 unfold finC
 simp only
 rcases mnL_mem (fnsL m.2 S) with h | h
 ·unfold tldE tldN
  rw [if_pos h, if_pos h]
  exact ⟨rfl, fun g => absurd rfl g⟩
 ·have h1 := fns_low hf hS hw h
  have hn : mnL (fnsL m.2 S) ≠ noneI := by unfold noneI; omega
  unfold tldE tldN
  rw [if_neg hn, if_neg hn, if_neg (by omega), if_neg (by omega)]
  exact ⟨rfl, fun _ => h1.2⟩
theorem cer_done (hf : faultM m = 0) (hz : 0 ≤ m.1) (h : cerA m = (x, 0)) : empB m.2 = false ∧ m.1.toNat < m.2.length ∧ x.1 = 0 ∧ numA (finC m.2) (hopsC m.2) (iniS m.2.length m.1.toNat) = (x, 0) ∧ ∃ L, ExpI (finC m.2) (hopsC m.2) (iniS m.2.length m.1.toNat) L.length L x.2 := by
  unfold cerA at h
  rw [if_neg (fun g => g hf)] at h
  cases he : empB m.2 with
  | true => rw [he, if_pos rfl] at h; simp only [Prod.mk.injEq] at h; exact absurd h.2 (by decide)
  | false =>
    rw [he, if_neg (by decide), if_neg (by omega)] at h
    obtain ⟨h1, L, h2⟩ := numA_done h
    have := (right_parts hf).1
    exact ⟨rfl, by omega, h1, h, L, h2⟩
theorem hop_lab (hf : faultM m = 0) {t : List Int} {h : Hg (List Int)} (hh : h ∈ hopsC m.2 t) : 0 ≤ h.1 ∧ h.1 ≤ 1000 ∧ 0 ≤ h.2.1 ∧ h.2.1 ≤ 1000 := by
 unfold hopsC at hh
 obtain ⟨p, hp, rfl⟩ := List.mem_map.1 hh
 obtain ⟨q, hq, _, a, ha, e⟩ := mem_prsL.1 hp
 obtain ⟨h1, h2, h3, h4, _⟩ := arc_rightP hf hq ha
 unfold hopC
 rw [← e]
 exact ⟨h1, h2, h3, h4⟩
theorem cer_right (hf : faultM m = 0) (hz : 0 ≤ m.1) (h : cerA m = (x, 0)) : faultM x = 0 ∧ 0 < x.2.length ∧ x.1 = 0 := by
 obtain ⟨_, hzl, hx1, hn, L, hE⟩ := cer_done hf hz h
 have hlen := hE.len
 have h60 := hE.l60
 have h0 := hE.zero.1
 have har := numA_arcs hn
 refine ⟨faultM_ok ?_ ?_, by omega, hx1⟩
 ·simp only [sizeB, Bool.and_eq_true, decide_eq_true_eq]
  exact ⟨by omega, har⟩
 ·simp only [rangeB, Bool.and_eq_true, List.all_eq_true]
  refine ⟨by simp only [inB, Bool.and_eq_true, decide_eq_true_eq]; omega, fun s hs => ?_⟩
  obtain ⟨i, hi, rfl⟩ := mem_el hs
  have hiL : i < L.length := by omega
  have hS := cer_set hf hzl hE (el_mem hiL)
  rw [hE.sts i hiL]
  simp only [stB, Bool.and_eq_true, List.all_eq_true]
  refine ⟨?_, fun y hy => ?_⟩
  ·refine finB_may ?_
   rcases fin_facts hf hS (by unfold noneI; omega) (hE.right i hiL) with ⟨g, _⟩ | ⟨g1, g2, _⟩
   ·exact .inl g
   ·exact .inr ⟨g1, g2⟩
  ·obtain ⟨g, hg, rfl⟩ := List.mem_map.1 hy
   have r1 := hop_lab hf hg
   have r2 := hE.low i hiL g hg
   have r3 := (el_idxG (hE.shut i hiL g hg)).1
   have r4 : 0 ≤ g.2.2.1 := by
    unfold hopsC at hg
    obtain ⟨p, hp, rfl⟩ := List.mem_map.1 hg
    exact (hop_facts (W := 1000000000) hf hS (fun q a ha => (arc_low hf (el_in ha) ha).2.1) (by unfold noneI; omega) hp).1
   refine arcB_may ⟨r1.1, r1.2.1⟩ ⟨r1.2.2.1, r1.2.2.2⟩ ⟨r4, r2⟩ ?_
   simp only [arcG]
   omega
theorem cer_pairs (hf : faultM m = 0) (hz : 0 ≤ m.1) (h : cerA m = (x, 0)) {i : Nat} (hi : i < x.2.length) : (el x.2 i).2.Pairwise fun a b => ltP (a.1, a.2.1) (b.1, b.2.1) := by
 obtain ⟨_, hzl, hx1, hn, L, hE⟩ := cer_done hf hz h
 have hlen := hE.len
 rw [hE.sts i (by omega)]
 simp only [hopsC]
 rw [List.map_map, List.pairwise_map]
 exact (prsL_pair _ _).imp fun {p q} h => h
theorem ltP_el {l : List Ar} (h : l.Pairwise fun a b => ltP (a.1, a.2.1) (b.1, b.2.1)) {j k : Nat} (hk : k < l.length) (hj : j < k) : ltP ((el l j).1, (el l j).2.1) ((el l k).1, (el l k).2.1) := by
 rw [el_get (by omega), el_get hk]
 exact List.pairwise_iff_getElem.1 h j k (by omega) hk hj
theorem ltP_once {l : List Ar} (h : l.Pairwise fun a b => ltP (a.1, a.2.1) (b.1, b.2.1)) : onceB l = true ∧ sortB l = true := by
 constructor
 ·rw [onceB_iff]
  intro k hk j hj
  have h1 := ltP_el h hk hj
  unfold ltP at h1
  simp only at h1
  rw [← Bool.not_eq_true, pairB_iff]
  omega
 ·rw [sortB_iff]
  intro i hi
  have h1 := ltP_el h hi (Nat.lt_succ_self i)
  unfold ltP at h1
  simp only at h1
  rw [aheadB_false]
  omega
theorem cer_full (hf : faultM m = 0) (hz : 0 ≤ m.1) (h : cerA m = (x, 0)) : empB x.2 = false := by
 obtain ⟨he, hzl, hx1, hn, L, hE⟩ := cer_done hf hz h
 have hlen := hE.len
 unfold empB at he ⊢
 rw [List.any_eq_false] at he ⊢
 intro s hs
 rw [Bool.not_eq_true, List.any_eq_false]
 obtain ⟨i, hi, rfl⟩ := mem_el hs
 rw [hE.sts i (by omega)]
 intro a ha
 obtain ⟨g, hg, rfl⟩ := List.mem_map.1 ha
 unfold hopsC at hg
 obtain ⟨p, hp, rfl⟩ := List.mem_map.1 hg
 obtain ⟨q, hq, _, b, hb, e⟩ := mem_prsL.1 hp
 have h1 := he _ (el_mem hq)
 rw [Bool.not_eq_true, List.any_eq_false] at h1
 have h2 := h1 b hb
 simp only [arcG, hopC]
 rw [← e]
 exact h2
theorem cer_two (hf : faultM m = 0) (hz : 0 ≤ m.1) (he : empB m.2 = false) {W : Int} (hW : 0 ≤ W ∧ W ≤ 130) (hl : LowL W m.2) : cerA m = ((0, []), 5) ∨ ∃ x, cerA m = (x, 0) ∧ CheapL x.2 := by
 have hzl : m.1.toNat < m.2.length := by have := (right_parts hf).1; omega
 have hw : ∀ q a, a ∈ (el m.2 q).2 → a.2.2.1 ≤ W := fun q a ha => (hl _ (el_mem (el_in ha))).2 a ha
 have hv : ∀ q, q < m.2.length → (el m.2 q).1 ≠ 1000000001 → (el m.2 q).1 ≤ W := fun q hq hn => (hl _ (el_mem hq)).1 hn
 have key : ∀ q L X, ExpI (finC m.2) (hopsC m.2) (iniS m.2.length m.1.toNat) q L X → ∀ i, i < L.length → SetN m.2.length 7800 (el L i) := fun q L X hE i hi => by
  have h1 := cer_sets hf hzl (by omega) hw hE i hi
  have h60 := hE.l60
  refine h1.mono ?_
  have h4 : W * (i : Int) ≤ 130 * (i : Int) := Int.mul_le_mul_of_nonneg_right hW.2 (by omega)
  omega
 have low : ∀ q L X, ExpI (finC m.2) (hopsC m.2) (iniS m.2.length m.1.toNat) q L X → ∀ i, i < L.length → ∀ h ∈ hopsC m.2 (el L i), h.2.2.1 ≤ 7930 := fun q L X hE i hi h hh => by
  unfold hopsC at hh
  obtain ⟨p, hp, rfl⟩ := List.mem_map.1 hh
  have := (hop_facts hf (key q L X hE i hi) hw (by unfold noneI; omega) hp).2.1
  omega
 have hc : cerA m = numA (finC m.2) (hopsC m.2) (iniS m.2.length m.1.toNat) := by
  unfold cerA
  rw [if_neg (fun g => g hf), he, if_neg (by decide), if_neg (by omega)]
 rw [hc]
 rcases numA_full (fin := finC m.2) (hops := hopsC m.2) (s0 := iniS m.2.length m.1.toNat) (fun q L X hE i hi => ⟨(fin_ok hf (key q L X hE i hi) hv (by omega)).1, fun h hh => by have := low q L X hE i hi h hh; omega⟩) with h | ⟨x, h⟩
 ·exact .inl h
 ·refine .inr ⟨x, h, ?_⟩
  obtain ⟨_, L, hE⟩ := numA_done h
  have hlen := hE.len
  intro s hs
  obtain ⟨i, hi, rfl⟩ := mem_el hs
  rw [hE.sts i (by omega)]
  refine ⟨fun hn => ?_, fun a ha => ?_⟩
  ·have := (fin_ok hf (key _ L _ hE i (by omega)) hv (by omega)).2 hn
   omega
  ·obtain ⟨g, hg, rfl⟩ := List.mem_map.1 ha
   have := low _ L _ hE i (by omega) g hg
   simp only [arcG]
   omega
end
end Go.Proofs.YtfhjncpakgailaaGreatDoor.Pl
