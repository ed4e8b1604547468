/- certain.textOf: a set's text (where the table of powers of ten that the standard library reads is as its text lays it). -/
import Derived.Test.YtfhjncpakgailaaGreatDoorKak
import Derived.Test.YtfhjncpakgailaaGreatDoorKao
import Derived.Test.YtfhjncpakgailaaGreatDoorKaj
import Derived.Test.YtfhjncpakgailaaGreatDoorKah
import Derived.Test.YtfhjncpakgailaaGreatDoorKab
import Derived.Test.YtfhjncpakgailaaGreatDoorKad
namespace Go.Proofs.YtfhjncpakgailaaGreatDoor.Wt
open Go.ChangeShapes Go.WideShapes Go.ChangeAt Go.RowKit
open Go.Proofs.YtfhjncpakgailaaGreatDoor.Pl
set_option linter.unusedVariables false
set_option linter.unusedSimpArgs false
def ShP (p : Pa) : Prop := 0 ≤ p.1 ∧ p.1 ≤ 100000 ∧ 0 ≤ p.2 ∧ p.2 ≤ 1000000000000
theorem txL_take {ps : List Pa} {k : Nat} (hk : k < ps.length) : txL (ps.take (k + 1)) = (((txL (ps.take k) ++ dgT (el ps k).1) ++ [58]) ++ dgT (el ps k).2) ++ [32] := by
 rw [take_el hk, txL_snoc]
theorem txL_take_len {ps : List Pa} (h : ∀ p ∈ ps, ShP p) (hl : ps.length ≤ 1000) (k : Nat) : (txL (ps.take k)).length ≤ 28000 := by
 have h1 := txL_len (l := ps.take k) (fun p hp => by have := h p (List.mem_of_mem_take hp); unfold ShP at this; omega)
 have h2 : (ps.take k).length ≤ 1000 := by rw [List.length_take]; omega
 omega
set_option maxRecDepth 100000 in
set_option maxHeartbeats 3200000 in
theorem textOf_any (base : Nat) (v : Value) (ps : List Pa) (w : World) (h : OwnP w base v ps) (ht : Tab w) (hs : ∀ p ∈ ps, ShP p) (h0 : ps ≠ []) (hl : ps.length ≤ 1000) :
  Calls Tryz.prog 139 #[v] w fun e w' => e = .returned (.string ⟨(txL ps).toArray⟩) ∧ Below w.heap.size w w' := by
 have HP := hidP h
 have HT := hidP ht
 have HS := hidP hs
 have HLN := hidP (txL_take_len hs hl)
 have HTL : Hid (∀ k, k < ps.length → txL (ps.take (k + 1)) = (((txL (ps.take k) ++ dgT (el ps k).1) ++ [58]) ++ dgT (el ps k).2) ++ [32]) := fun k hk => txL_take hk
 have HALL : Hid (txL (ps.take ps.length) = txL ps) := by show _ = _; rw [List.take_length]
 have HNE : Hid (txL ps ≠ []) := fun e => h0 (by
  cases ps with
  | nil => rfl
  | cons p l => have h9 := congrArg List.length e; simp [txL, txP] at h9)
 have HEL : Hid (∀ k, k < ps.length → ShP (el ps k)) := fun k hk => hs _ (el_mem hk)
 obtain ⟨a, cap, rfl⟩ := h.sl
 have HB0 : Hid (Bld w.heap.size w.heap.size [] (w.alloc (.cells #[.pointer none, .slice none 0 0] 198))) := Bld.made w
 have HW0 : Hid (Below w.heap.size w (w.alloc (.cells #[.pointer none, .slice none 0 0] 198))) := (Below.refl _ _).alloc (Nat.le_refl _) _
 clear h ht hs h0
 obtain ⟨n, hn⟩ : ∃ n, ps.length = n := ⟨_, rfl⟩
 rw [hn] at hl HP HTL HALL HEL ⊢
 have HN := hidP hn
 clear hn
 go_enter Tryz.func139, Tryz.ntmps139
 go_wp2
 go_loopw [8] (fun i wr => ∃ k : Nat, k ≤ n ∧ i = .int .i64 k ∧ Hid (Bld w.heap.size w.heap.size (txL (ps.take k)) wr) ∧ Hid (Below w.heap.size w wr)) (fun i _ => n - (intOf i).toNat)
 case atStart => exact ⟨0, Nat.zero_le _, rfl, HB0, HW0⟩
 case round =>
  clear HB0 HW0
  obtain ⟨k, hk, rfl, hB, hW⟩ := hrel
  obtain ⟨w1, hw1⟩ : ∃ w1, w1 = wr := ⟨_, rfl⟩
  subst hw1
  by_cases hlt : k < n
  ·have k0 : (0 : Int) ≤ (k : Int) := Int.natCast_nonneg _
   have k1 : (k : Int) < (n : Int) := by omega
   obtain ⟨b, off, hab, hbl, c0, c1⟩ := HP.out.cell (j := k) (by rw [HN.out]; exact hlt)
   subst hab
   have c0 := (hW.out.cell (p := ⟨b, off + k * 2, none⟩) hbl).trans c0
   have c1 := (hW.out.cell (p := ⟨b, off + k * 2 + 1, none⟩) hbl).trans c1
   have hsh := HEL.out k hlt
   have HTK := hidP (HTL.out k hlt)
   have HL1 := hidP (HLN.out k)
   obtain ⟨pk, hpk⟩ : ∃ pk, el ps k = pk := ⟨_, rfl⟩
   rw [hpk] at c0 c1 hsh HTK
   clear hpk
   obtain ⟨p0, p1⟩ := pk
   simp only [ShP] at hsh c0 c1 HTK
   obtain ⟨s0, hs0⟩ : ∃ s0 : ByteArray, ⟨(dgT p0).toArray⟩ = s0 := ⟨_, rfl⟩
   obtain ⟨s1, hs1⟩ : ∃ s1 : ByteArray, ⟨(dgT p1).toArray⟩ = s1 := ⟨_, rfl⟩
   have e0 : s0.data.toList = dgT p0 := by rw [← hs0]
   have e1 : s1.data.toList = dgT p1 := by rw [← hs1]
   have z0 : s0.size ≤ 13 := by rw [← hs0]; exact dgT_len (by omega)
   have z1 : s1.size ≤ 13 := by rw [← hs1]; exact dgT_len (by omega)
   have HI0 := hidP (fun W hW => itoa_dg p0 W hW hsh.1 (by omega) s0 hs0)
   have HI1 := hidP (fun W hW => itoa_dg p1 W hW hsh.2.2.1 (by omega) s1 hs1)
   have E0 := hidP e0
   have E1 := hidP e1
   have hq0 : s0.data.toList.length ≤ 13 := z0
   have hq1 : s1.data.toList.length ≤ 13 := z1
   obtain ⟨T, hT⟩ : ∃ T, txL (ps.take k) = T := ⟨_, rfl⟩
   rw [hT] at hB HTK HL1
   rw [← e0, ← e1] at HTK
   have HLA : Hid (T.length ≤ 1000000 ∧ (T ++ s0.data.toList).length ≤ 1000000 ∧ (T ++ s0.data.toList ++ [58]).length ≤ 1000000 ∧ (T ++ s0.data.toList ++ [58] ++ s1.data.toList).length ≤ 1000000) := by
    have := HL1.out
    simp only [List.length_append, List.length_cons, List.length_nil]
    exact ⟨by omega, by omega, by omega, by omega⟩
   clear hT hs0 hs1 e0 e1 hsh HL1
   have hA := (Below.refl w1.heap.size w1).alloc (Nat.le_refl _) (.cells #[.int .i64 p0, .int .i64 p1] 84)
   have KP := hidP (Blk.made w1 #[.int .i64 p0, .int .i64 p1] 84)
   have B1 := hidP (hB.out.later hA)
   have W1 := hidP (hW.out.trans (hA.mono hW.out.size))
   have hws := hW.out.size
   clear hA hB hW
   go_wp2_with (first
    | (go_at_call 159; (with_reducible refine (HI0.out _ (HT.out.later W1.out)).mono ?_); rintro e w2 ⟨rfl, hb2⟩; have KP2 := hidP (KP.out.below hb2 KP.out.lt); have B2 := hidP (B1.out.later hb2); have W2 := hidP (W1.out.trans (hb2.mono W1.out.size)); clear hb2 KP B1 W1 HI0)
    | (go_at_call 158; (with_reducible refine (write_bytes _ _ _ s0 _ B2.out HLA.out.1 (by omega) W2.out.size).mono ?_); rintro e w3 ⟨rfl, hB3, hb3, ho3⟩; have KP3 := hidP (ho3.blk KP2.out (by decide) (by decide)); have B3 := hidP hB3; have W3 := hidP (W2.out.trans hb3); clear hB3 hb3 ho3 KP2 B2 W2)
    | (go_at_call 160; (with_reducible refine (writeByte_any _ _ _ 58 58 _ B3.out rfl HLA.out.2.1 W3.out.size).mono ?_); rintro e w4 ⟨rfl, hB4, hb4, ho4⟩; have KP4 := hidP (ho4.blk KP3.out (by decide) (by decide)); have d1 := KP4.out.cell 1 (v := .int .i64 p1) rfl; have B4 := hidP hB4; have W4 := hidP (W3.out.trans hb4); clear hB4 hb4 ho4 KP3 B3 W3)
    | (go_at_call 159; (with_reducible refine (HI1.out _ (HT.out.later W4.out)).mono ?_); rintro e w5 ⟨rfl, hb5⟩; have B5 := hidP (B4.out.later hb5); have W5 := hidP (W4.out.trans (hb5.mono W4.out.size)); clear hb5 KP4 B4 W4 HI1)
    | (go_at_call 158; (with_reducible refine (write_bytes _ _ _ s1 _ B5.out HLA.out.2.2.1 (by omega) W5.out.size).mono ?_); rintro e w6 ⟨rfl, hB6, hb6, ho6⟩; have B6 := hidP hB6; have W6 := hidP (W5.out.trans hb6); clear hB6 hb6 ho6 B5 W5)
    | (go_at_call 160; (with_reducible refine (writeByte_any _ _ _ 32 32 _ B6.out rfl HLA.out.2.2.2 W6.out.size).mono ?_); rintro e w7 ⟨rfl, hB7, hb7, ho7⟩; have B7 := hidP hB7; have W7 := hidP (W6.out.trans hb7); clear hB7 hb7 ho7 B6 W6))
   go_roundw
   case rel => exact ⟨k + 1, by omega, by go_num, by rw [HTK.out]; exact B7, W7⟩
   case measure => simp [intOf]; omega
  ·have hk1 : ¬ (k : Int) < (n : Int) := by omega
   obtain rfl : k = n := by omega
   rw [HALL.out] at hB
   go_wp2_with (first
    | (go_at_call 161; (with_reducible refine (string_any _ _ _ _ hB.out HNE.out).mono ?_); rintro e w2 ⟨rfl, hb2⟩; have W2 := hidP (hW.out.trans hb2); clear hb2))
   go_ret
   exact ⟨rfl, W2.out⟩
end Go.Proofs.YtfhjncpakgailaaGreatDoor.Wt
namespace Go.Proofs.YtfhjncpakgailaaGreatDoor.Wt
open Go.ChangeShapes Go.WideShapes Go.ChangeAt Go.RowKit Go.Maps
open Go.Proofs.YtfhjncpakgailaaGreatDoor.Pl
set_option linter.unusedVariables false
set_option linter.unusedSimpArgs false
def MakK (b : Nat) (w w' : World) : Prop := w.heap.size ≤ w'.heap.size ∧ ∀ k cs t, Blk w k cs t → k ≠ b → t ≠ 86 → Blk w' k cs t
theorem MakK.trans {b : Nat} {w w1 w2 : World} (h : MakK b w w1) (k : MakK b w1 w2) : MakK b w w2 := ⟨Nat.le_trans h.1 k.1, fun q cs t hb h1 h2 => k.2 q cs t (h.2 q cs t hb h1 h2) h1 h2⟩
theorem MakK.of {b : Nat} {w w' : World} (h : Below w.heap.size w w') : MakK b w w' := ⟨h.size, fun k cs t hb _ _ => hb.below h hb.lt⟩
theorem MakK.set {b o : Nat} {w : World} {v : Value} : MakK b w (w.setCell ⟨b, o, none⟩ v) := ⟨by simp [World.setCell], fun k cs t hb h1 _ => hb.setO _ _ h1⟩
theorem MakK.sets {b base : Nat} {w w' : World} {v : Value} {L : List (List Pa)} (ho : SetsM w base v L) (hg : w.grownBy w' v.ownBlock) : MakK b w w' := by
 obtain ⟨ss, _, h2, _⟩ := ho
 exact ⟨hg.size, fun k cs t hb _ h3 => hb.grown hg (own_ne h2 hb (Ne.symm h3))⟩
theorem MakK.map {b m : Nat} {w w' : World} {ks : List (List UInt8)} (hm : TxM w m ks) (hg : w.grownBy w' (some m)) : MakK b w w' := ⟨hg.size, fun k cs t hb _ h2 => hb.grown hg (fun e => by injection e with e; exact hm.neBlk hb e.symm)⟩
theorem MakK.row {b base : Nat} {w w' : World} {e : TypeId} {s : Nat} {v : Value} {n : Nat} {xs : List Value} (hK : MakK b w w') (ho : w.ownsRow base e s v n xs) (he : e ≠ 86) (hb : some b ≠ v.ownBlock) : w'.ownsRow base e s v n xs := by
 refine ⟨ho.1, ?_⟩
 rcases ho.2 with hn | ⟨g, cap, cur, rfl, hbg, hgg, rest⟩
 ·exact .inl hn
 ·exact .inr ⟨g, cap, cur, rfl, hbg, hK.2 g cur e hgg (fun e => hb (by simp [Value.ownBlock, e])) he, rest⟩
theorem MakK.sts {b base : Nat} {w w' : World} {v : Value} {l : List St} {cs : Array Value} (hK : MakK b w w') (hb : Blk w b cs 81) (ho : OwnSts w base v l) : OwnSts w' base v l := by
 obtain ⟨vs, h1, h2, h3⟩ := ho
 exact ⟨vs, hK.row h1 (by decide) (own_ne h1 hb (by decide)), h2, fun j hj => ⟨(h3 j hj).1, hK.row (h3 j hj).2 (by decide) (own_ne (h3 j hj).2 hb (by decide))⟩⟩
structure MakN (w : World) (base b mb : Nat) (vt vs : Value) (L : List (List Pa)) (n : Int) : Prop where
 blk : Blk w b #[.map (some mb), vt, vs, .int .i64 n] 81
 tr : TxM w mb (L.map txL)
 trs : SetsM w base vt L
 hb : base ≤ b
 hm : base ≤ mb
section
variable {w w' : World} {base b mb : Nat} {vt vs : Value} {L : List (List Pa)} {n : Int}
theorem MakN.later (h : MakN w base b mb vt vs L n) (hb : Below w.heap.size w w') : MakN w' base b mb vt vs L n :=
 ⟨h.blk.below hb h.blk.lt, h.tr.keep (hb.block _ h.tr.lt), h.trs.later hb, h.hb, h.hm⟩
theorem MakN.ne (h : MakN w base b mb vt vs L n) : b ≠ mb := Ne.symm (h.tr.neBlk h.blk)
end
theorem SetsM.keptM {w w' : World} {base m : Nat} {v : Value} {L : List (List Pa)} {ks : List (List UInt8)} (h : SetsM w base v L) (hm : TxM w m ks) (hg : w.grownBy w' (some m)) : SetsM w' base v L := by
 obtain ⟨ss, h1, h2, h3⟩ := h
 exact ⟨ss, h1, h2.kept hg (.inr (Ne.symm (hm.neRow h2))), fun j hj => World.ownsRow.kept (h3 j hj) hg (.inr (Ne.symm (hm.neRow (h3 j hj))))⟩
def NumOf (L : List (List Pa)) (ps : List Pa) (jx : Nat) : Prop := (ps ∈ L → jx < L.length ∧ el L jx = ps) ∧ (ps ∉ L → jx = L.length)
set_option maxRecDepth 100000 in
set_option maxHeartbeats 3200000 in
theorem makNum_any (base b mb : Nat) (vt vs : Value) (L : List (List Pa)) (n : Int) (a : Option Addr) (np c : Nat) (ps : List Pa) (W : World) (h : MakN W base b mb vt vs L n) (hP : OwnP W base (.slice a np c) ps) (ht : Tab W) (hs : ∀ p ∈ ps, ShP p) (h0 : ps ≠ []) (hpl : ps.length ≤ 1000) (hLs : ∀ qs ∈ L, ∀ p ∈ qs, ShP p) (hN : L.Nodup) (hl : L.length < 100000) (hbW : base ≤ W.heap.size) :
  Calls Tryz.prog 99 #[.pointer (some ⟨b, 0, none⟩), .slice a np c] W fun e W' => ∃ jx : Nat, e = .returned (.int .i64 (jx : Int)) ∧ NumOf L ps jx ∧ (∃ vt', MakN W' base b mb vt' vs (addG L ps) n) ∧ MakK b W W' ∧ Below base W W' := by
 have hinj : ∀ qs ∈ L, txL qs = txL ps → qs = ps := fun qs hq e => txL_inj (fun p hp => by have := hLs qs hq p hp; unfold ShP at this; omega) (fun p hp => by have := hs p hp; unfold ShP at this; omega) e
 have hNT : (L.map txL).Nodup := by
  rw [List.nodup_iff_pairwise_ne, List.pairwise_map]
  exact hN.imp_of_mem fun {x y} hx hy hxy e => hxy (txL_inj (fun p hp => by have := hLs x hx p hp; unfold ShP at this; omega) (fun p hp => by have := hLs y hy p hp; unfold ShP at this; omega) e)
 have hlen : (txL ps).length ≤ 1000000 := by
  have h1 := txL_len (l := ps) (fun p hp => by have := hs p hp; unfold ShP at this; omega)
  omega
 have HTX := hidP (textOf_any base (.slice a np c) ps W hP ht hs h0 hpl)
 have H := hidP h
 have HP := hidP hP
 have bl := h.blk.lt
 by_cases hmem : ps ∈ L
 ·obtain ⟨i, hi, hei⟩ := mem_el hmem
  have HI : Hid (el (L.map txL) i = txL ps) := by show _ = _; rw [el_map hi, hei]
  have HLK : Hid (∀ W', Below W.heap.size W W' → (Instr.lookup 78 (.map (some mb)) (.string ⟨(txL ps).toArray⟩) true).run Tryz.prog W' = .ok (.tuple #[.int .i64 (i : Int), .bool true]) W') := fun W' hW => (h.later hW).tr.look_old hlen hNT (by rw [List.length_map]; exact hi) HI.out
  have HNO : Hid (NumOf L ps i) := ⟨fun _ => ⟨hi, hei⟩, fun g => absurd hmem g⟩
  have HAD := hidP (addG_old hmem)
  clear h hP ht hs h0 hLs hN hinj hNT hlen hmem hei HI hi
  generalize (⟨(txL ps).toArray⟩ : ByteArray) = tx at HTX HLK
  go_enter Tryz.func99, Tryz.ntmps99
  go_wp2_with (first
   | (go_at_call 139; (with_reducible refine HTX.out.mono ?_); rintro e w2 ⟨rfl, hb2⟩; have hlk := HLK.out w2 hb2; have H2 := hidP (H.out.later hb2); have c0 := H2.out.blk.cell 0 (v := .map (some mb)) rfl; have HB2 := hidP hb2; clear hb2 HLK HTX))
  go_ret
  exact ⟨i, rfl, HNO.out, ⟨vt, by rw [HAD.out]; exact H2.out⟩, MakK.of HB2.out, HB2.out.mono hbW⟩
 ·have hno : txL ps ∉ L.map txL := fun g => by
   obtain ⟨qs, hq, e⟩ := List.mem_map.1 g
   exact hmem (hinj qs hq e ▸ hq)
  have HLK : Hid (∀ W', Below W.heap.size W W' → (Instr.lookup 78 (.map (some mb)) (.string ⟨(txL ps).toArray⟩) true).run Tryz.prog W' = .ok (.tuple #[.int .i64 0, .bool false]) W') := fun W' hW => (h.later hW).tr.look_new hlen hno
  have HNO : Hid (NumOf L ps L.length) := ⟨fun g => absurd g hmem, fun _ => rfl⟩
  have HAD := hidP (addG_new hmem)
  have HUP : Hid (∀ W', Below W.heap.size W W' → ∃ w', (Instr.mapUpdate 78 (.map (some mb)) (.string ⟨(txL ps).toArray⟩) (.int .i64 (L.length : Int))).run Tryz.prog W' = .ok () w' ∧ TxM w' mb ((L ++ [ps]).map txL) ∧ W'.grownBy w' (some mb)) := fun W' hW => by
   obtain ⟨w9, h1, h2, h3⟩ := (h.later hW).tr.put hlen hno (by rw [List.length_map]; exact hl)
   rw [List.length_map] at h1
   exact ⟨w9, h1, by rw [List.map_append]; exact h2, h3⟩
  obtain ⟨at0, ct0, hvt⟩ := h.trs.sl
  clear h hP ht hs h0 hLs hN hinj hNT hlen hmem hno
  generalize (⟨(txL ps).toArray⟩ : ByteArray) = tx at HTX HLK HUP
  subst hvt
  obtain ⟨nL, hnL⟩ : ∃ nL, L.length = nL := ⟨_, rfl⟩
  rw [hnL] at HNO HUP H hl
  have HNL := hidP hnL
  clear hnL
  go_enter Tryz.func99, Tryz.ntmps99
  go_wp2_with (first
   | (go_at_call 139; (with_reducible refine HTX.out.mono ?_); rintro e w2 ⟨rfl, hb2⟩; have hlk := HLK.out w2 hb2; have H2 := hidP (H.out.later hb2); have P2 := hidP (HP.out.later hb2); have c0 := H2.out.blk.cell 0 (v := .map (some mb)) rfl; have c1 := H2.out.blk.cell 1 (v := .slice at0 nL ct0) rfl; have HB2 := hidP hb2; obtain ⟨w4, hup, hM4, hg4⟩ := HUP.out w2 hb2; have B4 := hidP (H2.out.blk.grown hg4 (fun e => H2.out.ne (by injection e))); have S4 := hidP (H2.out.trs.keptM H2.out.tr hg4); have P4 : Hid (OwnP w4 base (.slice a np c) ps) := (World.ownsRow.kept P2.out hg4 (.inr (Ne.symm (H2.out.tr.neRow P2.out)))); have K4 := hidP ((MakK.of (b := b) hb2).trans (MakK.map H2.out.tr hg4)); have W4 := hidP ((hb2.mono hbW).grown hg4 (Nat.le_trans hbW hb2.size) (fun k hk => by cases hk; exact H2.out.hm)); have M4 := hidP hM4; have d1 := B4.out.cell 1 (v := .slice at0 nL ct0) rfl; obtain ⟨v6, w6, hr6, ho6, hb6, hg6⟩ := S4.out.push P4.out (by rw [HNL.out]; omega) (Nat.le_trans hbW W4.out.size); have HR6 := hidP hr6; have hA6 := (Below.refl w4.heap.size w4).alloc (Nat.le_refl _) (.cells #[.slice a np c] 86); have SA := S4.out.later hA6; have B6 := hidP ((B4.out.below hA6 B4.out.lt).grown hg6 (by obtain ⟨ss, _, hh, _⟩ := SA; exact own_ne hh (B4.out.below hA6 B4.out.lt) (by decide))); have M6 := hidP ((M4.out.keep (hA6.block _ M4.out.lt)).keep (hg6.block _ (Nat.lt_of_lt_of_le M4.out.lt hA6.size) (by obtain ⟨ss, _, hh, _⟩ := SA; exact (M4.out.keep (hA6.block _ M4.out.lt)).neRow hh))); have K6 := hidP ((K4.out.trans (MakK.of hA6)).trans (MakK.sets SA hg6)); have W6 := hidP (W4.out.trans hb6); have S6 := hidP ho6; obtain ⟨a6, n6, c6, hv6⟩ := (by obtain ⟨x, y, e⟩ := ho6.sl; exact ⟨x, _, y, e⟩ : ∃ x n y, v6 = .slice x n y); subst hv6; have f1 := B6.out.fz 1; have g1 := B6.out.cell 1 (v := .slice at0 nL ct0) rfl; clear hb2 HLK HTX HUP hM4 hg4 hr6 ho6 hb6 hg6 hA6 SA S4 P4 P2)
   | (at_builtin; refine wpListAppendRun rfl _ _ 79 rfl rfl rfl HR6.out ?_))
  go_ret
  have S7 : SetsM (w6.setCell ⟨b, 1, none⟩ (.slice a6 n6 c6)) base (.slice a6 n6 c6) (L ++ [ps]) := S6.out.setB B6.out (by decide) (by decide) 1 _
  exact ⟨nL, rfl, HNO.out, ⟨_, by rw [HAD.out]; exact ⟨B6.out.set 1 _, M6.out.keep (Below.heap_setCell w6 ⟨b, 1, none⟩ _ mb (M6.out.neBlk B6.out)), S7, H.out.hb, H.out.hm⟩⟩, K6.out.trans MakK.set, W6.out.setCell (p := ⟨b, 1, none⟩) H.out.hb _⟩
set_option maxRecDepth 100000 in
theorem makFull_any (base b mb : Nat) (vt vs : Value) (L : List (List Pa)) (n : Int) (W : World) (h : MakN W base b mb vt vs L n) (r : Bool) (hr : decide (400 < n ∨ 60 < L.length) = r) :
  Calls Tryz.prog 104 #[.pointer (some ⟨b, 0, none⟩)] W fun e W' => e = .returned (.bool r) ∧ W = W' := by
 obtain ⟨at0, ct0, hvt⟩ := h.trs.sl
 subst hvt
 have c3 := h.blk.cell 3 (v := .int .i64 n) rfl
 have c1 := h.blk.cell 1 (v := .slice at0 L.length ct0) rfl
 clear h
 generalize L.length = nL at *
 by_cases h1 : 400 < n
 ·have HR : Hid (r = true) := by show _ = _; rw [← hr]; exact decide_eq_true (.inl h1)
  clear hr
  go_enter Tryz.func104, Tryz.ntmps104
  go_wp2
  go_ret
  exact ⟨by rw [HR.out]; rfl, rfl⟩
 ·by_cases h2 : 60 < nL
  ·have HR : Hid (r = true) := by show _ = _; rw [← hr]; exact decide_eq_true (.inr h2)
   have h2' : (60 : Int) < (nL : Int) := by omega
   have h1' : decide (400 < n) = false := decide_eq_false h1
   clear hr
   go_enter Tryz.func104, Tryz.ntmps104
   go_wp2
   go_ret
   exact ⟨by rw [HR.out]; rfl, rfl⟩
  ·have HR : Hid (r = false) := by show _ = _; rw [← hr]; exact decide_eq_false (fun g => g.elim h1 h2)
   have h2' : ¬ (60 : Int) < (nL : Int) := by omega
   have h1' : decide (400 < n) = false := decide_eq_false h1
   clear hr
   go_enter Tryz.func104, Tryz.ntmps104
   go_wp2
   go_ret
   exact ⟨by rw [HR.out]; rfl, rfl⟩
end Go.Proofs.YtfhjncpakgailaaGreatDoor.Wt
namespace Go.Proofs.YtfhjncpakgailaaGreatDoor.Pl
set_option linter.unusedVariables false
set_option linter.unusedSimpArgs false
theorem SetN.mono {n : Nat} {B C : Int} {S : List Int} (h : SetN n B S) (hc : B ≤ C) : SetN n C S := ⟨h.len, fun q hq => (h.rng q hq).imp id fun g => ⟨g.1, Int.le_trans g.2 hc⟩⟩
section
variable {m : Mc} {z : Nat} {L : List (List Int)} {X : List St} {W : Int}
theorem cer_sets (hf : faultM m = 0) (hz : z < m.2.length) (hW : 0 ≤ W ∧ W ≤ 1000000000) (hw : ∀ q a, a ∈ (el m.2 q).2 → a.2.2.1 ≤ W) {q : Nat} (hE : ExpI (finC m.2) (hopsC m.2) (iniS m.2.length z) q L X) : ∀ i, i < L.length → SetN m.2.length (W * i) (el L i) := by
  intro i
  induction i using Nat.strongRecOn with
  | _ i ih =>
    intro hi
    by_cases h0 : i = 0
    · subst h0
      rw [hE.zero.2.1]
      simpa using iniS_set hz
    · obtain ⟨j, h, h1, _, h2, h3⟩ := hE.led i (by omega) hi
      have hS := ih j h1 (by omega)
      unfold hopsC at h2
      obtain ⟨p, hp, rfl⟩ := List.mem_map.1 h2
      have hl := hE.l60
      have hb : W * (j : Int) ≤ 1000000000 * 60 := by
        have h4 : W * (j : Int) ≤ 1000000000 * (j : Int) := Int.mul_le_mul_of_nonneg_right hW.2 (by omega)
        omega
      have h5 := (hop_facts hf hS hw (by unfold noneI; omega) hp).2.2.1
      rw [h3] at h5
      refine h5.mono ?_
      have e : W * (j : Int) + W = W * ((j : Int) + 1) := by rw [Int.mul_add, Int.mul_one]
      rw [e]
      exact Int.mul_le_mul_of_nonneg_left (by omega) hW.1
theorem cer_set (hf : faultM m = 0) (hz : z < m.2.length) {q : Nat} (hE : ExpI (finC m.2) (hopsC m.2) (iniS m.2.length z) q L X) {t : List Int} (ht : t ∈ L) : SetN m.2.length 60000000000 t := by
 obtain ⟨h1, h2⟩ := el_idxG ht
 have h3 := cer_sets (W := 1000000000) hf hz (by omega) (fun q a ha => (arc_low hf (el_in ha) ha).2.1) hE _ h1
 rw [h2] at h3
 have := hE.l60
 exact h3.mono (by omega)
end
section
variable {α : Type} [DecidableEq α]
theorem numH_err (hs : List (Hg α)) : ∀ (L : List α) (n : Nat), (∀ h ∈ hs, h.2.2.1 ≤ 1000000000) → (numH hs L n).1 = 0 ∨ (numH hs L n).1 = 5 := by
  induction hs with
  | nil => intro L n _; exact .inl rfl
  | cons h hs ih =>
    intro L n hl
    simp only [numH]
    rw [if_neg (by have := hl h List.mem_cons_self; omega)]
    split
    · exact .inr rfl
    · exact ih _ _ fun k hk => hl k (List.mem_cons_of_mem _ hk)
end
section
variable {α : Type} [DecidableEq α] [Inhabited α] {fin : α → Int × Int} {hops : α → List (Hg α)}
theorem numS_full {s0 : α} (H : ∀ q L S, ExpI fin hops s0 q L S → ∀ i, i < L.length → (fin (el L i)).2 = 0 ∧ ∀ h ∈ hops (el L i), h.2.2.1 ≤ 1000000000) : ∀ (k q : Nat) (L : List α) (S : List St) (n : Nat), ExpI fin hops s0 q L S → numS fin hops k q L S n = ((0, []), 5) ∨ ∃ x, numS fin hops k q L S n = (x, 0) := by
  intro k
  induction k with
  | zero => intro q L S n _; exact .inl rfl
  | succ k ih =>
    intro q L S n h
    simp only [numS]
    by_cases hq : q < L.length
    · obtain ⟨h1, h2⟩ := H q L S h q hq
      rw [if_pos hq, if_neg (fun g => g h1)]
      rcases numH_err (hops (el L q)) L n h2 with e | e
      · rw [if_neg (fun g => g e)]
        exact ih _ _ _ _ (h.step hq h1 e)
      · rw [if_pos (by rw [e]; decide), e]
        exact .inl rfl
    · rw [if_neg hq]
      exact .inr ⟨_, rfl⟩
theorem numA_full {s0 : α} (H : ∀ q L S, ExpI fin hops s0 q L S → ∀ i, i < L.length → (fin (el L i)).2 = 0 ∧ ∀ h ∈ hops (el L i), h.2.2.1 ≤ 1000000000) : numA fin hops s0 = ((0, []), 5) ∨ ∃ x, numA fin hops s0 = (x, 0) := numS_full H _ _ _ _ _ (ExpI.init fin hops s0)
theorem numS_arcs {s0 : α} : ∀ (k q : Nat) (L : List α) (S : List St) (n : Nat) (x : Mc), ExpI fin hops s0 q L S → arcN S = n → n ≤ 400 → numS fin hops k q L S n = (x, 0) → arcN x.2 ≤ 400 := by
  intro k
  induction k with
  | zero => intro q L S n x _ _ _ e; simp only [numS, Prod.mk.injEq] at e; exact absurd e.2 (by decide)
  | succ k ih =>
    intro q L S n x h ha h4 e
    simp only [numS] at e
    split at e
    · rename_i hq
      split at e
      · rename_i he
        simp only [Prod.mk.injEq] at e
        exact absurd e.2 he
      · rename_i he
        split at e
        · rename_i h0; simp only [Prod.mk.injEq] at e; exact absurd e.2 h0
        · rename_i h0
          have h0' : (numH (hops (el L q)) L n).1 = 0 := by simpa using h0
          obtain ⟨_, _, _, f4, _, f6⟩ := numH_facts (hops (el L q)) L n h.nodup h0'
          refine ih _ _ _ _ _ (h.step hq (by simpa using he) h0') ?_ (f6 h4) e
          rw [arcN_append, ha, f4]
          simp [arcN]
    · simp only [Prod.mk.injEq] at e
      obtain ⟨rfl, _⟩ := e
      simp only
      omega
theorem numA_arcs {s0 : α} {x : Mc} (h : numA fin hops s0 = (x, 0)) : arcN x.2 ≤ 400 := numS_arcs _ _ _ _ _ _ (ExpI.init fin hops s0) rfl (by simp [arcN]) h
end
section
variable {α β : Type} [DecidableEq α] [DecidableEq β] [Inhabited α] [Inhabited β] {fin : α → Int × Int} {hops : α → List (Hg α)} {fin' : β → Int × Int} {hops' : β → List (Hg β)} {g : Nat → β}
theorem numH_again (hg : ∀ i j, g i = g j → i = j) {F : List α} (hF : F.Nodup) (hs : List (Hg α)) : ∀ (L : List α) (n : Nat), (∃ E, F = L ++ E) → (numH hs L n).1 = 0 → (∃ E, F = (numH hs L n).2.1 ++ E) →
    numH (hs.map fun h => (h.1, h.2.1, h.2.2.1, g (F.idxOf h.2.2.2))) ((List.range L.length).map g) n = (0, (List.range (numH hs L n).2.1.length).map g, (numH hs L n).2.2) := by
  induction hs with
  | nil => intro L n _ _ _; simp [numH]
  | cons h hs ih =>
    intro L n hL h0 hE
    simp only [numH] at h0 hE ⊢
    by_cases c1 : 1000000000 < h.2.2.1
    · rw [if_pos c1] at h0
      cases h0
    · rw [if_neg c1] at h0 hE ⊢
      by_cases c2 : 400 < n + 1 ∨ 60 < (addG L h.2.2.2).length
      · rw [if_pos c2] at h0
        cases h0
      · rw [if_neg c2] at h0 hE ⊢
        simp only at h0 hE ⊢
        simp only [List.map_cons, numH]
        rw [if_neg c1]
        -- what is added there is what is added here
        have hnd : (addG L h.2.2.2).Nodup := by
          obtain ⟨D, e⟩ := hL
          have : L.Nodup := by rw [e, List.nodup_append] at hF; exact hF.1
          exact addG_nodup this _
        obtain ⟨⟨D, eD⟩, _⟩ := numH_facts hs (addG L h.2.2.2) (n + 1) hnd h0
        have hFL : ∃ E, F = addG L h.2.2.2 ++ E := by
          obtain ⟨E, e⟩ := hE
          exact ⟨D ++ E, by rw [e, eD, List.append_assoc]⟩
        have hidx : F.idxOf h.2.2.2 = L.idxOf h.2.2.2 := by
          obtain ⟨E, e⟩ := hFL
          rw [e, idxG_ext (addG_mem _ _), addG_idx]
        have hadd : addG ((List.range L.length).map g) (g (F.idxOf h.2.2.2)) = (List.range (addG L h.2.2.2).length).map g := by
          by_cases hm : h.2.2.2 ∈ L
          · have hlt : L.idxOf h.2.2.2 < L.length := (el_idxG hm).1
            rw [addG_old hm, addG_old]
            rw [hidx]
            exact List.mem_map.2 ⟨_, List.mem_range.2 hlt, rfl⟩
          · rw [addG_new hm, addG_new]
            · rw [hidx, idxG_new hm, List.length_append, List.length_singleton, List.range_succ, List.map_append]
              rfl
            · rw [hidx, idxG_new hm]
              intro hc
              obtain ⟨i, hi, e⟩ := List.mem_map.1 hc
              have := hg _ _ e
              rw [List.mem_range] at hi
              omega
        have hix2 : ((List.range L.length).map g).idxOf (g (F.idxOf h.2.2.2)) = L.idxOf h.2.2.2 := by
          have hnd2 : ((List.range (addG L h.2.2.2).length).map g).Nodup := by
            rw [List.nodup_iff_pairwise_ne, List.pairwise_map]
            exact List.nodup_range.imp fun {a b} hab e => hab (hg _ _ e)
          have h1 : L.idxOf h.2.2.2 < (addG L h.2.2.2).length := by
            have h2 := (el_idxG (addG_mem L h.2.2.2)).1
            rwa [addG_idx] at h2
          have h3 := idxG_el hnd2 (k := L.idxOf h.2.2.2) (by simpa using h1)
          have h4 : el ((List.range (addG L h.2.2.2).length).map g) (L.idxOf h.2.2.2) = g (L.idxOf h.2.2.2) := el_range_map _ h1
          rw [h4] at h3
          rw [← addG_idx, hadd, hidx]
          exact h3
        rw [hadd, if_neg (by simpa using c2), ih _ _ hFL h0 hE]
        simp only [arcG, hix2]
theorem numS_again (hg : ∀ i j, g i = g j → i = j) {F : List α} {X : List St} {s0 : α} (hX : ExpI fin hops s0 F.length F X) (hfin : ∀ i, i < F.length → fin' (g i) = ((el X i).1, 0)) (hhop : ∀ i, i < F.length → hops' (g i) = (el X i).2.map fun a => (a.1, a.2.1, a.2.2.1, g a.2.2.2.toNat)) :
    ∀ (k q : Nat) (L : List α) (S : List St) (n : Nat) (x : Mc), ExpI fin hops s0 q L S → (∃ E, F = L ++ E) → numS fin hops k q L S n = (x, 0) → x.2 = X → numS fin' hops' k q ((List.range L.length).map g) S n = (x, 0) := by
  intro k
  induction k with
  | zero => intro q L S n x _ _ e _; simp only [numS, Prod.mk.injEq] at e; exact absurd e.2 (by decide)
  | succ k ih =>
    intro q L S n x h hF e hx
    simp only [numS] at e ⊢
    by_cases hq : q < L.length
    · rw [if_pos hq] at e
      rw [if_pos (by simpa using hq)]
      by_cases he : (fin (el L q)).2 = 0
      · rw [if_neg (fun k => k he)] at e
        by_cases h0 : (numH (hops (el L q)) L n).1 = 0
        · rw [if_neg (fun k => k h0)] at e
          obtain ⟨E, eF⟩ := hF
          have hqF : q < F.length := by rw [eF, List.length_append]; omega
          have elq : el F q = el L q := by rw [eF]; exact el_appendL hq
          have eg : el ((List.range L.length).map g) q = g q := el_range_map _ hq
          -- where the run ends
          have hst := h.step hq he h0
          obtain ⟨_, L', ⟨D, eD⟩, hL'⟩ := numS_done _ _ _ _ _ _ hst e
          rw [hx] at hL'
          have hLF : L' = F := by
            refine el_ext ?_ fun i hi => ?_
            · have := hL'.len; have := hX.len; omega
            · have hlen : L'.length = F.length := by have := hL'.len; have := hX.len; omega
              -- by what leads there
              induction i using Nat.strongRecOn with
              | _ i ihi =>
                by_cases h0i : i = 0
                · subst h0i
                  rw [hL'.zero.2.1, hX.zero.2.1]
                · obtain ⟨j, kk, g1, g2, g3, g4⟩ := hL'.led i (by omega) hi
                  have e1 := ihi j g1 (by omega)
                  have s1 := hL'.sts j (by omega)
                  have s2 := hX.sts j (by omega)
                  rw [s1] at s2
                  rw [e1] at g3 s2
                  have s3 : (hops (el F j)).map (arcG L') = (hops (el F j)).map (arcG F) := (Prod.mk.inj s2).2
                  have s4 : arcG L' kk = arcG F kk := List.map_inj_left.1 s3 kk g3
                  have s5 : L'.idxOf kk.2.2.2 = F.idxOf kk.2.2.2 := by
                    have := (Prod.mk.inj (Prod.mk.inj (Prod.mk.inj s4).2).2).2
                    omega
                  rw [g4, idxG_el hL'.nodup hi] at s5
                  have hin := hX.shut j (by omega) kk g3
                  rw [g4] at hin
                  have h7 := (el_idxG hin).2
                  rw [← s5] at h7
                  exact h7.symm
          have hF2 : ∃ E, F = (numH (hops (el L q)) L n).2.1 ++ E := ⟨D, by rw [← hLF]; exact eD⟩
          rw [eg, hfin q hqF]
          simp only
          rw [if_neg (fun k => k rfl), hhop q hqF, hX.sts q hqF, elq]
          simp only [List.map_map]
          have e9 : (hops (el L q)).map ((fun a : Ar => (a.1, a.2.1, a.2.2.1, g a.2.2.2.toNat)) ∘ arcG F) = (hops (el L q)).map fun h => (h.1, h.2.1, h.2.2.1, g (F.idxOf h.2.2.2)) := List.map_congr_left fun h _ => by simp [arcG]
          rw [e9, numH_again hg hX.nodup (hops (el L q)) L n ⟨E, eF⟩ h0 hF2]
          simp only
          rw [if_neg (fun k => k rfl), List.length_map]
          have := ih _ _ _ _ _ hst hF2 e hx
          have e10 : (fin (el L q)).1 = (fin (el L q)).1 := rfl
          exact this
        · rw [if_pos h0] at e
          simp only [Prod.mk.injEq] at e
          exact absurd e.2 h0
      · rw [if_pos he] at e
        simp only [Prod.mk.injEq] at e
        exact absurd e.2 he
    · rw [if_neg hq] at e
      rw [if_neg (by simpa using hq)]
      exact e
theorem numA_again (hg : ∀ i j, g i = g j → i = j) {F : List α} {x : Mc} {s0 : α} (hx : numA fin hops s0 = (x, 0)) (hX : ExpI fin hops s0 F.length F x.2) (hfin : ∀ i, i < F.length → fin' (g i) = ((el x.2 i).1, 0)) (hhop : ∀ i, i < F.length → hops' (g i) = (el x.2 i).2.map fun a => (a.1, a.2.1, a.2.2.1, g a.2.2.2.toNat)) :
  numA fin' hops' (g 0) = (x, 0) := by
 obtain ⟨E, e⟩ := hX.start
 exact numS_again hg hX hfin hhop _ _ _ _ _ _ (ExpI.init fin hops s0) ⟨E, e⟩ hx rfl
end
def NineL (l : List St) : Prop := ∀ s ∈ l, (s.1 ≠ 1000000001 → s.1 ≤ 9) ∧ ∀ a ∈ s.2, a.2.2.1 ≤ 9
def LowL (W : Int) (l : List St) : Prop := ∀ s ∈ l, (s.1 ≠ 1000000001 → s.1 ≤ W) ∧ ∀ a ∈ s.2, a.2.2.1 ≤ W
theorem finB_may {n : Int} (h : n = 1000000001 ∨ (0 ≤ n ∧ n ≤ 1000000000)) : finB n = true := by
 simp only [finB, inB, Bool.or_eq_true, Bool.and_eq_true, decide_eq_true_eq]
 exact h
theorem arcB_may {n : Nat} {x : Ar} (h1 : 0 ≤ x.1 ∧ x.1 ≤ 1000) (h2 : 0 ≤ x.2.1 ∧ x.2.1 ≤ 1000) (h3 : 0 ≤ x.2.2.1 ∧ x.2.2.1 ≤ 1000000000) (h4 : 0 ≤ x.2.2.2 ∧ x.2.2.2 < (n : Int)) : arcB n x = true := by
 simp only [arcB, inB, Bool.and_eq_true, decide_eq_true_eq]
 omega
theorem made_nine (r : Int × List (Int × Bool × List Ar)) (states : Nat) (full : Bool) : NineL (madeM r states full).2 := fun s hs => by
 simp only [madeM, statesM, List.mem_map] at hs
 obtain ⟨q, _, rfl⟩ := hs
 split
 ·exact ⟨fun _ => by simp, fun a ha => absurd ha (by simp)⟩
 ·refine ⟨fun h => ?_, fun a ha => ?_⟩
  ·unfold stM at h ⊢
   simp only at h ⊢
   split
   ·have := pkR_bd (el r.2 q).1 10 (by omega); omega
   ·rename_i g; rw [if_neg g] at h; exact absurd rfl h
  ·simp only [stM, List.mem_map] at ha
   obtain ⟨e, _, rfl⟩ := ha
   unfold arM
   have := pkR_bd e.2.2.1 10 (by omega)
   simp only
   omega
end Go.Proofs.YtfhjncpakgailaaGreatDoor.Pl
