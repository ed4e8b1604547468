/- The program: one or the other, one behind the other, again and again. -/
import Derived.Test.YthcfkiinjcbajabJ16D
namespace Go.Proofs.Ythcfkiinjcbajab.Wt
open Go.ChangeShapes Go.WideShapes Go.ChangeAt Go.RowKit
open Go.Proofs.Ythcfkiinjcbajab.Pl
set_option linter.unusedVariables false
set_option linter.unusedSimpArgs false
theorem fit_of {x : Mc} (h : sizeB x = true → faultM x = 0) : (if faultM x = 0 then x else (0, [])) = fitM x ∧ (if faultM x = 0 then (0 : Int) else 5) = fitE x := by
  unfold fitM fitE
  by_cases hs : sizeB x = true
  · rw [if_pos hs, if_pos hs, if_pos (h hs), if_pos (h hs)]; exact ⟨rfl, rfl⟩
  · have h0 : faultM x ≠ 0 := fun e => hs (faultM_zero e).1
    rw [if_neg hs, if_neg hs, if_neg h0, if_neg h0]; exact ⟨rfl, rfl⟩
theorem el_arcN {l : List St} {j : Nat} (hj : j < l.length) : (el l j).2.length ≤ arcN l := by
  have h1 := arcN_take hj
  have h2 := arcN_takeR l (j + 1)
  omega
/-- States moved. -/
def mvL (d : Nat) (l : List St) : List St := l.map (fun s => shS (d : Int) s.1 [] s)
def staN (z : Int) (d : Nat) : Int := if z = -1 then -1 else z + (d : Int)
theorem mvL_len (d : Nat) (l : List St) : (mvL d l).length = l.length := by simp [mvL]
theorem mvL_arcs (d : Nat) (l : List St) : arcN (mvL d l) = arcN l := arcN_sh l d (fun s => s.1)
theorem lnk_hop (z : Int) (d : Nat) (x f : Int) (ar : List Ar) (hz : -1 ≤ z) : lnkS (staN z d) x (f, ar) = (f, ar ++ hopA z (d : Int) x) := by
  unfold lnkS staN hopA
  by_cases h : z = -1
  · simp [h]
  · rw [if_neg h, if_neg (by omega), if_neg (by omega)]
theorem led_mv (t : Int) (d : Nat) (l : List St) : (mvL d l).map (ledS t) = l.map (fun s => shS (d : Int) 1000000001 (if s.1 = 1000000001 then [] else if t = -1 then [] else [(0, 0, s.1, t)]) s) := by
  unfold mvL
  rw [List.map_map]
  refine List.map_congr_left fun s hs => ?_
  show ledS t (shS _ s.1 [] s) = _
  unfold ledS shS
  by_cases h : s.1 = 1000000001
  · simp [h]
  · simp [h]
def staL1 (m : Mc) : List St := (0, []) :: mvL 1 m.2
def staL2 (m : Mc) : List St := (0, hopA m.1 1 0) :: mvL 1 m.2
theorem sta_step1 (m : Mc) (hz : -1 ≤ m.1) : (staL1 m).set 0 (lnkS (staN m.1 1) 0 (el (staL1 m) 0)) = staL2 m := by
  show (lnkS (staN m.1 1) 0 (0, [])) :: mvL 1 m.2 = _
  rw [lnk_hop _ _ _ _ _ hz]
  rfl
theorem sta_step2 (m : Mc) : ledL 0 1 (m.2.length + 1) (staL2 m) = (staM m).2 := by
  have h2 := ledL_mid 0 [(0, hopA m.1 1 0)] (mvL 1 m.2) []
  simp only [List.append_nil, List.length_cons, List.length_nil, mvL_len, Nat.zero_add] at h2
  rw [Nat.add_comm 1 m.2.length] at h2
  refine h2.trans ?_
  rw [led_mv]
  simp only [staM, List.singleton_append]
  refine congrArg (List.cons _) (List.map_congr_left fun s hs => ?_)
  unfold endA hopA
  simp
def uniL0 : List St := [(1000000001, [])]
def uniL1 (a : Mc) : List St := (1000000001, hopA a.1 1 0) :: mvL 1 a.2
theorem uni_step1 (a : Mc) (hz : -1 ≤ a.1) : (uniL0 ++ mvL 1 a.2).set 0 (lnkS (staN a.1 1) 0 (el (uniL0 ++ mvL 1 a.2) 0)) = uniL1 a := by
  show (lnkS (staN a.1 1) 0 (1000000001, [])) :: mvL 1 a.2 = _
  rw [lnk_hop _ _ _ _ _ hz]
  rfl
theorem uni_step2 (a b : Mc) (hz : -1 ≤ b.1) : (uniL1 a ++ mvL (1 + a.2.length) b.2).set 0 (lnkS (staN b.1 (1 + a.2.length)) 0 (el (uniL1 a ++ mvL (1 + a.2.length) b.2) 0)) = (uniM a b).2 := by
  show (lnkS (staN b.1 (1 + a.2.length)) 0 (1000000001, hopA a.1 1 0)) :: (mvL 1 a.2 ++ mvL (1 + a.2.length) b.2) = _
  rw [lnk_hop _ _ _ _ _ hz]
  unfold uniM mvL
  simp
theorem cat_step (a b : Mc) (hz : -1 ≤ b.1) : ledL (staN b.1 a.2.length) 0 a.2.length (mvL 0 a.2 ++ mvL a.2.length b.2) = (catM a b).2 := by
  have h2 := ledL_mid (staN b.1 a.2.length) [] (mvL 0 a.2) (mvL a.2.length b.2)
  simp only [List.nil_append, List.length_nil, mvL_len, Nat.zero_add] at h2
  refine h2.trans ?_
  rw [led_mv]
  unfold catM
  refine congrArg (· ++ _) (List.map_congr_left fun s hs => ?_)
  unfold endA hopA staN
  by_cases h : b.1 = -1
  · simp [h]
  · have h1 : ¬ b.1 < 0 := by omega
    have h2 : ¬ b.1 + (a.2.length : Int) = -1 := by omega
    simp [h, h1, h2]
theorem boxedFour {w w1 : World} {c0 c1 c2 c3 : Array Value} {t0 t1 t2 t3 : TypeId} {n : Nat} (hb : Below n ((((w.alloc (.cells c0 t0)).alloc (.cells c1 t1)).alloc (.cells c2 t2)).alloc (.cells c3 t3)) w1) (hn : n = w.heap.size + 4) : w.heap.size + 4 ≤ w1.heap.size ∧ Blk w1 w.heap.size c0 t0 ∧ Blk w1 (w.heap.size + 1) c1 t1 ∧ Blk w1 (w.heap.size + 2) c2 t2 ∧ Blk w1 (w.heap.size + 3) c3 t3 ∧ Below w.heap.size w w1 := by
  subst hn
  have h := hb.size
  simp only [World.size_alloc] at h
  have k1 := Blk.made (w.alloc (.cells c0 t0)) c1 t1
  have k2 := Blk.made ((w.alloc (.cells c0 t0)).alloc (.cells c1 t1)) c2 t2
  have k3 := Blk.made (((w.alloc (.cells c0 t0)).alloc (.cells c1 t1)).alloc (.cells c2 t2)) c3 t3
  simp only [World.size_alloc] at k1 k2 k3
  exact ⟨h, ((((Blk.made w c0 t0).alloc _).alloc _).alloc _).below hb (by omega), ((k1.alloc _).alloc _).below hb (by omega), (k2.alloc _).below hb (by omega), k3.below hb (by omega), (((((Below.refl _ _).alloc (Nat.le_refl _) _).alloc (by simp) _).alloc (by simp; omega) _).alloc (by simp; omega) _).trans (hb.mono (by omega))⟩
/-- A store into a block that holds no part of it. -/
theorem Bui.setA {w : World} {t t2 : TypeId} {base b c : Nat} {z : Int} {l : List St} {cs : Array Value} (h : Bui w t base b z l) (hc : Blk w c cs t2) (hbc : b ≠ c ∧ c < base) (o : Nat) (u : Value) : Bui (w.setCell ⟨c, o, none⟩ u) t base b z l := by
  obtain ⟨v, h1, h2⟩ := h
  exact ⟨v, h1.setO _ _ hbc.1, h2.setCell (a := ⟨c, o, none⟩) hbc.2 _⟩
theorem Bui.setZ {w : World} {t : TypeId} {base b : Nat} {z : Int} {l : List St} (h : Bui w t base b z l) (hb : b < base) (y : Int) : Bui (w.setCell ⟨b, 0, none⟩ (.int .i64 y)) t base b y l := by
  obtain ⟨v, h1, h2⟩ := h
  exact ⟨v, h1.set 0 _, h2.setCell (a := ⟨b, 0, none⟩) hb _⟩
theorem res_uni (tm : Array Value) (W : World) (R : Nat) (ec : Int) (x0 x1 : Value) (hB : Blk W R #[x0, x1] 28) (h2 : tm.getD 4 undef = .pointer (some ⟨R, 0, none⟩)) (h3 : tm.getD 5 undef = .int .i64 ec) : (results Try.f14 tm).run Try.prog W = .ok (.tuple #[.agg #[x0, x1], .int .i64 ec]) W := by
  have c0 := hB.cell 0 (v := x0) rfl
  have c1 := hB.cell 1 (v := x1) rfl
  simp only [Array.getD_eq_getD_getElem?] at h2 h3
  simp [results, Try.results14, go_sem, h2, h3, c0, c1]
set_option maxRecDepth 100000 in
theorem uniP_bad (va vb : Value) (ma mb : Mc) (w : World) (ha : Mach w va ma) (hoka : okM ma) (hb : Mach w vb mb) (hokb : okM mb) (r : Int) (hr : (if faultM ma ≠ 0 then faultM ma else faultM mb) = r) (h0 : r ≠ 0) :
    Calls Try.prog 14 #[va, vb] w fun e w' => RatRes (0, []) r w e w' := by
  obtain ⟨za, la⟩ := ma
  obtain ⟨zb, lb⟩ := mb
  have h0' : (r != 0) = true := bne_iff_ne.2 h0
  obtain ⟨vsa, rfl, hSa⟩ := ha
  obtain ⟨aa, ca, rfl⟩ := hSa.sl
  obtain ⟨vsb, rfl, hSb⟩ := hb
  obtain ⟨ab, cb, rfl⟩ := hSb.sl
  have HMA : Hid (Mach w (.agg #[.int .i64 za, .slice aa la.length ca]) (za, la)) := ⟨_, rfl, hSa⟩
  have HMB : Hid (Mach w (.agg #[.int .i64 zb, .slice ab lb.length cb]) (zb, lb)) := ⟨_, rfl, hSb⟩
  have HKA := hidP hoka
  have HKB := hidP hokb
  have HRR := hidP hr
  clear hSa hSb hoka hokb hr h0
  generalize hna : la.length = na at *
  generalize hnb : lb.length = nb at *
  have HNA := hidP hna
  have HNB := hidP hnb
  clear hna hnb
  have HC : Hid (∀ W, Below w.heap.size w W → Calls Try.prog 25 #[.agg #[.int .i64 za, .slice aa na ca, .int .i64 zb, .slice ab nb cb]] W fun e w' => e = .returned (.int .i64 r) ∧ Below W.heap.size W w') := fun W hW => by
    have h9 := check2_any za zb aa ab ca cb la lb W (by rw [HNA.out]; exact HMA.out.later hW (Nat.le_refl _)) HKA.out (by rw [HNB.out]; exact HMB.out.later hW (Nat.le_refl _)) HKB.out
    rw [HRR.out, HNA.out, HNB.out] at h9
    exact h9
  go_enter Try.func14, Try.ntmps14
  go_wp2_with (first
    | (go_at_call 25; (with_reducible refine (HC.out _ (by go_grown)).mono ?_); rintro e w1 ⟨rfl, hb⟩; obtain ⟨s1, b1, b2, b3, b4, hb1⟩ := boxedFour hb (by simp); have HB1 : Hid (Below w.heap.size w w1) := hb1; have KR := hidP b3; have e0 := b3.cell 0 (v := .int .i64 0) rfl; have e1 := b3.cell 1 (v := .slice none 0 0) rfl; have g0 := b3.fz 0; have g1 := b3.fz 1; clear b1 b2 b3 b4 hb1 hb))
  exact bodyPost_ret (res_uni _ _ (w.heap.size + 2) r _ _ ((KR.out.set 0 (.int .i64 0)).set 1 (.slice none 0 0)) rfl rfl) rfl ⟨_, rfl, mach_zeroR _, (HB1.out.setCell (p := ⟨w.heap.size + 2, 0, none⟩) (by show w.heap.size ≤ w.heap.size + 2; omega) _).setCell (p := ⟨w.heap.size + 2, 1, none⟩) (by show w.heap.size ≤ w.heap.size + 2; omega) _⟩
set_option maxRecDepth 100000 in
set_option maxHeartbeats 1600000 in
theorem unionP_ok (va vb : Value) (ma mb : Mc) (w : World) (ha : Mach w va ma) (hoka : okM ma) (hb : Mach w vb mb) (hokb : okM mb) (h0a : faultM ma = 0) (h0b : faultM mb = 0) :
    Calls Try.prog 14 #[va, vb] w fun e w' => RatRes (fitM (uniM ma mb)) (fitE (uniM ma mb)) w e w' := by
  obtain ⟨za, la⟩ := ma
  obtain ⟨zb, lb⟩ := mb
  obtain ⟨⟨hz1, hz2⟩, _⟩ := right_parts h0a
  obtain ⟨⟨hy1, hy2⟩, _⟩ := right_parts h0b
  have a60 := (right_size h0a).1
  have a400 := (right_size h0a).2
  have b60 := (right_size h0b).1
  have b400 := (right_size h0b).2
  simp only at hz1 hz2 hy1 hy2 a60 a400 b60 b400
  obtain ⟨vsa, rfl, hSa⟩ := ha
  obtain ⟨aa, ca, rfl⟩ := hSa.sl
  obtain ⟨vsb, rfl, hSb⟩ := hb
  obtain ⟨ab, cb, rfl⟩ := hSb.sl
  have HMA : Hid (Mach w (.agg #[.int .i64 za, .slice aa la.length ca]) (za, la)) := ⟨_, rfl, hSa⟩
  have HMB : Hid (Mach w (.agg #[.int .i64 zb, .slice ab lb.length cb]) (zb, lb)) := ⟨_, rfl, hSb⟩
  have HC : Hid (∀ W, Below w.heap.size w W → Calls Try.prog 25 #[.agg #[.int .i64 za, .slice aa la.length ca, .int .i64 zb, .slice ab lb.length cb]] W fun e w' => e = .returned (.int .i64 0) ∧ Below W.heap.size W w') := fun W hW => by
    have h9 := check2_any za zb aa ab ca cb la lb W (HMA.out.later hW (Nat.le_refl _)) hoka (HMB.out.later hW (Nat.le_refl _)) hokb
    rw [if_neg (by simp [h0a]), h0b] at h9
    exact h9
  have HF := hidP (fit_of (x := uniM (za, la) (zb, lb)) (uniM_right h0a h0b))
  have HOK : Hid (okM (0, (uniM (za, la) (zb, lb)).2)) := by
    have h5 := uniM_len (za, la) (zb, lb)
    have h6 := uniM_arcs (za, la) (zb, lb)
    simp only at h5 h6
    exact small_ok (by simp only; omega) (by simp only; omega)
  have hu0 : arcN (uniL0 ++ mvL 1 la) = arcN la := by simp [uniL0, arcN, mvL_arcs]
  have hu1 : arcN (uniL1 (za, la) ++ mvL (1 + la.length) lb) ≤ 1 + arcN la + arcN lb := by
    have h3 := hopA_le za 1 0
    have : arcN (uniL1 (za, la) ++ mvL (1 + la.length) lb) = (hopA za 1 0).length + arcN la + arcN lb := by simp [uniL1, arcN, arcN_append, mvL_arcs]; omega
    omega
  have hl0 : (uniL0 ++ mvL 1 la).length = la.length + 1 := by simp [uniL0, mvL_len]
  have hl1 : (uniL1 (za, la)).length = 1 + la.length := by simp [uniL1, mvL_len]; omega
  have hl2 : (uniL1 (za, la) ++ mvL (1 + la.length) lb).length = 1 + la.length + lb.length := by rw [List.length_append, hl1, mvL_len]
  have hA0 : Hid (∀ W2 b base, Bui W2 73 base b 0 uniL0 → b < base → base ≤ W2.heap.size → Below w.heap.size w W2 → w.heap.size ≤ b → Calls Try.prog 27 #[.pointer (some ⟨b, 0, none⟩), .agg #[.int .i64 za, .slice aa la.length ca]] W2 fun e W' => e = .returned (.int .i64 (staN za 1)) ∧ Bui W' 73 base b 0 (uniL0 ++ mvL 1 la) ∧ Below b W2 W' ∧ Kept (some b) W2 W') := fun W2 b base h1 h2 h3 h4 h5 => add_any b base 0 uniL0 (za, la) _ w W2 h1 h2 h3 HMA.out h4 h5 h0a (by simp [uniL0])
  have hK0 : Hid (∀ W2 b base, Bui W2 73 base b 0 (uniL0 ++ mvL 1 la) → b < base → base ≤ W2.heap.size → Calls Try.prog 28 #[.pointer (some ⟨b, 0, none⟩), .int .i64 0, .int .i64 (staN za 1), .int .i64 0] W2 fun e W' => e = .returned (.tuple #[]) ∧ Bui W' 73 base b 0 (uniL1 (za, la)) ∧ Below b W2 W' ∧ Kept (some b) W2 W') := fun W2 b base h1 h2 h3 => by
    have h8 := el_arcN (l := uniL0 ++ mvL 1 la) (j := 0) (by omega)
    have h9 := link_any b base 0 0 (staN za 1) 0 (uniL0 ++ mvL 1 la) W2 h1 h2 h3 (by omega) (by omega) (by omega)
    rw [uni_step1 (za, la) hz1] at h9
    exact h9
  have hA1 : Hid (∀ W2 b base, Bui W2 73 base b 0 (uniL1 (za, la)) → b < base → base ≤ W2.heap.size → Below w.heap.size w W2 → w.heap.size ≤ b → Calls Try.prog 27 #[.pointer (some ⟨b, 0, none⟩), .agg #[.int .i64 zb, .slice ab lb.length cb]] W2 fun e W' => e = .returned (.int .i64 (staN zb (1 + la.length))) ∧ Bui W' 73 base b 0 (uniL1 (za, la) ++ mvL (1 + la.length) lb) ∧ Below b W2 W' ∧ Kept (some b) W2 W') := fun W2 b base h1 h2 h3 h4 h5 => by
    have h9 := add_any b base 0 (uniL1 (za, la)) (zb, lb) _ w W2 h1 h2 h3 HMB.out h4 h5 h0b (by omega)
    rw [hl1] at h9
    exact h9
  have hK1 : Hid (∀ W2 b base, Bui W2 73 base b 0 (uniL1 (za, la) ++ mvL (1 + la.length) lb) → b < base → base ≤ W2.heap.size → Calls Try.prog 28 #[.pointer (some ⟨b, 0, none⟩), .int .i64 0, .int .i64 (staN zb (1 + la.length)), .int .i64 0] W2 fun e W' => e = .returned (.tuple #[]) ∧ Bui W' 73 base b 0 (uniM (za, la) (zb, lb)).2 ∧ Below b W2 W' ∧ Kept (some b) W2 W') := fun W2 b base h1 h2 h3 => by
    have h8 := el_arcN (l := uniL1 (za, la) ++ mvL (1 + la.length) lb) (j := 0) (by omega)
    have h9 := link_any b base 0 0 (staN zb (1 + la.length)) 0 _ W2 h1 h2 h3 (by omega) (by omega) (by omega)
    have h7 := uni_step2 (za, la) (zb, lb) hy1
    simp only at h7
    rw [h7] at h9
    exact h9
  have HE0 : (0, (uniM (za, la) (zb, lb)).2) = uniM (za, la) (zb, lb) := rfl
  rw [← HF.out.1, ← HF.out.2]
  clear hSa hSb hoka hokb h0a h0b HF hu0 hu1 hl0 hl1 hl2
  generalize uniM (za, la) (zb, lb) = X at *
  obtain ⟨X0, X1⟩ := X
  have hX0 : X0 = 0 := (congrArg Prod.fst HE0).symm
  subst hX0
  clear HE0
  have hA4 : Hid (∀ W2 b base, Bui W2 73 base b 0 X1 → base ≤ W2.heap.size → Calls Try.prog 29 #[.pointer (some ⟨b, 0, none⟩)] W2 fun e W' => BuiRes base (if faultM (0, X1) = 0 then (0, X1) else (0, [])) (if faultM (0, X1) = 0 then 0 else 5) W2 e W') := fun W2 b base h1 h2 => built_any b base 0 X1 W2 h1 h2 HOK.out
  generalize (if faultM ((0, X1) : Mc) = 0 then ((0, X1) : Mc) else ((0, []) : Mc)) = XM at *
  generalize (if faultM (0, X1) = 0 then (0 : Int) else 5) = XE at *
  obtain ⟨M0, M1⟩ := XM
  generalize uniL0 ++ mvL 1 la = V0 at *
  generalize uniL1 (za, la) ++ mvL (1 + la.length) lb = V1 at *
  generalize uniL1 (za, la) = U1 at *
  generalize staN za 1 = sa at *
  generalize staN zb (1 + la.length) = sb at *
  obtain ⟨UU, u0, u1, u2⟩ : ∃ UU : Int → List St, UU 0 = uniL0 ∧ UU 1 = U1 ∧ UU 2 = X1 := ⟨fun k => if k = 0 then uniL0 else if k = 1 then U1 else X1, rfl, rfl, rfl⟩
  have HU0 := hidP u0
  have HU1 := hidP u1
  have HU2 := hidP u2
  clear u0 u1 u2
  generalize hna : la.length = na at *
  generalize hnb : lb.length = nb at *
  clear hna hnb
  have i0 := idx2_0 (.int .i64 za) (.slice aa na ca) (.int .i64 zb) (.slice ab nb cb)
  have i1 := idx2_1 (.int .i64 za) (.slice aa na ca) (.int .i64 zb) (.slice ab nb cb)
  go_enter Try.func14, Try.ntmps14
  go_wp2_with (first
    | (go_at_call 25; (with_reducible refine (HC.out _ (by go_grown)).mono ?_); rintro e w1 ⟨rfl, hb⟩; obtain ⟨s1, b1, b2, b3, b4, hb1⟩ := boxedFour hb (by simp); have HB1 : Hid (Below w.heap.size w w1) := hb1; have KR := hidP b3; have KT := hidP b4; have HV := hidP (Blk.made w1 #[.int .i64 0, .slice none 0 0] 73); clear b1 b2 b3 b4 hb1 hb)
    | (go_at_call 26; (with_reducible refine (begin_any w1.heap.size (w1.heap.size + 1) (.slice none 0 0) 0 1000000001 _ HV.out (by omega) (by simp) rfl).mono ?_); rintro e w2 ⟨rfl, hB2, hb2, hk2⟩; have HQ2 := hidP hB2; have HX2 := hidP (((Below.refl w1.heap.size w1).alloc (Nat.le_refl _) _).trans hb2); have t0 := (KT.out.below HX2.out (by omega)).cell 0 (v := .int .i64 za) rfl; have t1 := (KT.out.below HX2.out (by omega)).cell 1 (v := .slice aa na ca) rfl; have t2 := (KT.out.below HX2.out (by omega)).cell 2 (v := .int .i64 zb) rfl; have t3 := (KT.out.below HX2.out (by omega)).cell 3 (v := .slice ab nb cb) rfl; have s2 : w1.heap.size + 1 ≤ w2.heap.size := (by have := hb2.size; simp at this; omega); clear hB2 hb2 hk2))
  go_loopw [23] (fun i wr => ∃ (k : Int), 0 ≤ k ∧ k ≤ 2 ∧ i = .int .i64 k ∧ w1.heap.size + 1 ≤ wr.heap.size ∧ Hid (Bui wr 73 (w1.heap.size + 1) w1.heap.size 0 (UU k)) ∧ Hid (Below w1.heap.size w1 wr)) (fun i _ => 2 - (intOf i).toNat)
  case atStart => exact ⟨0, by omega, by omega, rfl, s2, by rw [HU0.out]; exact HQ2, HX2⟩
  case round =>
    obtain ⟨k, hk0, hk, rfl, hsr, hB, hb⟩ := hrel
    have HW := hidP (HB1.out.trans (hb.out.mono (by omega)))
    rcases (show k = 0 ∨ k = 1 ∨ k = 2 by omega) with rfl | rfl | rfl
    · rw [HU0.out] at hB
      go_wp2_with (first
        | (go_at_call 27; (with_reducible refine (hA0.out _ w1.heap.size (w1.heap.size + 1) (hB.out.later ((Below.refl _ _).alloc (Nat.le_refl _) _)) (by omega) (by simp; omega) (HW.out.alloc HW.out.size _) (by omega)).mono ?_); rintro e w3 ⟨rfl, hB3, hb3, hk3⟩; have HQ3 := hidP hB3; have HX3 := hidP ((hb.out.alloc (by omega) _).trans hb3); have s3 : w1.heap.size + 1 ≤ w3.heap.size := (by have := hb3.size; simp at this; omega); obtain ⟨v3, q3, _⟩ := hB3; have e3 := q3.cell 0 (v := .int .i64 0) rfl; clear q3 hb3 hk3)
        | (go_at_call 28; (with_reducible refine (hK0.out _ w1.heap.size (w1.heap.size + 1) HQ3.out (by omega) s3).mono ?_); rintro e w4 ⟨rfl, hB4, hb4, hk4⟩; have HQ4 := hidP hB4; have HX4 := hidP (HX3.out.trans hb4); have s4 : w1.heap.size + 1 ≤ w4.heap.size := (by have := hb4.size; omega); clear hB4 hb4 hk4))
      go_roundw
      case rel => exact ⟨1, by omega, by omega, by go_num, s4, by rw [HU1.out]; exact HQ4, HX4⟩
      case measure => simp [intOf]
    · rw [HU1.out] at hB
      go_wp2_with (first
        | (go_at_call 27; (with_reducible refine (hA1.out _ w1.heap.size (w1.heap.size + 1) (hB.out.later ((Below.refl _ _).alloc (Nat.le_refl _) _)) (by omega) (by simp; omega) (HW.out.alloc HW.out.size _) (by omega)).mono ?_); rintro e w3 ⟨rfl, hB3, hb3, hk3⟩; have HQ3 := hidP hB3; have HX3 := hidP ((hb.out.alloc (by omega) _).trans hb3); have s3 : w1.heap.size + 1 ≤ w3.heap.size := (by have := hb3.size; simp at this; omega); obtain ⟨v3, q3, _⟩ := hB3; have e3 := q3.cell 0 (v := .int .i64 0) rfl; clear q3 hb3 hk3)
        | (go_at_call 28; (with_reducible refine (hK1.out _ w1.heap.size (w1.heap.size + 1) HQ3.out (by omega) s3).mono ?_); rintro e w4 ⟨rfl, hB4, hb4, hk4⟩; have HQ4 := hidP hB4; have HX4 := hidP (HX3.out.trans hb4); have s4 : w1.heap.size + 1 ≤ w4.heap.size := (by have := hb4.size; omega); clear hB4 hb4 hk4))
      go_roundw
      case rel => exact ⟨2, by omega, by omega, by go_num, s4, by rw [HU2.out]; exact HQ4, HX4⟩
      case measure => simp [intOf]
    · rw [HU2.out] at hB
      go_wp2_with (first
        | (go_at_call 29; (with_reducible refine (hA4.out _ w1.heap.size (w1.heap.size + 1) hB.out hsr).mono ?_); rintro e w6 ⟨v6, rfl, ho6, hb6⟩; obtain ⟨a6, c6, hv6⟩ := ho6.sts.sl; subst hv6; have HO6 := hidP ho6; have HX6 := hidP (hb.out.trans (hb6.mono (by omega))); have KR6 := hidP (KR.out.below HX6.out (by omega)); have f0 := KR6.out.cell 0 (v := .int .i64 0) rfl; have f1 := KR6.out.cell 1 (v := .slice none 0 0) rfl; have g0 := KR6.out.fz 0; have g1 := KR6.out.fz 1; clear ho6 hb6))
      exact bodyPost_ret (res_uni _ _ (w.heap.size + 2) XE _ _ ((KR6.out.set 0 (.int .i64 M0)).set 1 (.slice a6 M1.length c6)) rfl rfl) rfl (BuiRes.rat (x := (M0, M1)) HO6.out (by omega) (HB1.out.trans (HX6.out.mono (by omega))) (by omega))
theorem unionP_any (va vb : Value) (ma mb : Mc) (w : World) (ha : Mach w va ma) (hoka : okM ma) (hb : Mach w vb mb) (hokb : okM mb) :
    Calls Try.prog 14 #[va, vb] w fun e w' => RatRes (ratM ma mb (uniM ma mb)) (ratE ma mb (uniM ma mb)) w e w' := by
  unfold ratM ratE
  by_cases h0 : faultM ma = 0
  · have n0 : ¬ faultM ma ≠ 0 := by simp [h0]
    rw [if_neg n0, if_neg n0]
    by_cases h1 : faultM mb = 0
    · have n1 : ¬ faultM mb ≠ 0 := by simp [h1]
      rw [if_neg n1, if_neg n1]
      exact unionP_ok va vb ma mb w ha hoka hb hokb h0 h1
    · rw [if_pos h1, if_pos h1]
      exact uniP_bad va vb ma mb w ha hoka hb hokb _ (if_neg n0) h1
  · rw [if_pos h0, if_pos h0]
    exact uniP_bad va vb ma mb w ha hoka hb hokb _ (if_pos h0) h0
end Go.Proofs.Ythcfkiinjcbajab.Wt
