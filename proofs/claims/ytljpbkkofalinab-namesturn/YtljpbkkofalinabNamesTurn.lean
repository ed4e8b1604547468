/- The statement NamesTurn: in a table that is made out of any numbers, Find and Of answer for just the texts and labels that it has, and turn each name of it back; for every input and without any condition. -/
import Derived.Test.YtljpbkkofalinabTb
import Derived.Test.YtljpbkkofalinabFd
import Derived.Test.YtljpbkkofalinabOf
import Derived.Laws.StructEq
import Derived.MapKept
import Derived.ShutString
import Derived.ChangeOld
import Derived.ChangeMaps5
import Derived.Below
namespace Go.Proofs.Ytljpbkkofalinab.namesTurn
open Go.ChangeShapes Go.WideShapes Go.ChangeAt Go.RowKit Go.ChangeMaps
open Go.Proofs.Ytljpbkkofalinab.Pl Go.Proofs.Ytljpbkkofalinab.Wt
set_option linter.unusedVariables false

theorem own : ownKnob Try.prog.godebug = none := by kernel_rfl
theorem laidOut : laidOutB Try.prog = true := by kernel_rfl
theorem tlq (a b : ByteArray) : (a.toList == b.toList) = true ↔ a = b := by rw [← beq_toListBytes]; exact Go.MapKept.bytes_beq a b
def seenT (ns : List Nm) (s : ByteArray) (k : Nat) : Bool := (List.range k).any fun i => (nm ns i).1.toList == s.toList
def seenL (ns : List Nm) (x : Int) (k : Nat) : Bool := (List.range k).any fun i => (nm ns i).2 == x
theorem seenT_succ (ns : List Nm) (s : ByteArray) (k : Nat) : seenT ns s (k + 1) = (seenT ns s k || ((nm ns k).1.toList == s.toList)) := by simp [seenT, List.range_succ]
theorem seenL_succ (ns : List Nm) (x : Int) (k : Nat) : seenL ns x (k + 1) = (seenL ns x k || ((nm ns k).2 == x)) := by simp [seenL, List.range_succ]
theorem seenT_hit {ns : List Nm} {s : ByteArray} {j : Nat} (h : textAt ns s j) : seenT ns s ns.length = true := any_true h.1 ((tlq _ _).2 h.2)
theorem seenL_hit {ns : List Nm} {x : Int} {j : Nat} (h : labAt ns x j) : seenL ns x ns.length = true := any_true h.1 (beq_iff_eq.2 h.2)
theorem seenT_miss {ns : List Nm} {s : ByteArray} (h : ∀ j, ¬ textAt ns s j) : seenT ns s ns.length = false := by
  rw [seenT, List.any_eq_false]
  intro i hi
  have hi := List.mem_range.1 hi
  intro e
  exact h i ⟨hi, (tlq _ _).1 e⟩
theorem seenL_miss {ns : List Nm} {x : Int} (h : ∀ j, ¬ labAt ns x j) : seenL ns x ns.length = false := by
  rw [seenL, List.any_eq_false]
  intro i hi
  have hi := List.mem_range.1 hi
  intro e
  exact h i ⟨hi, beq_iff_eq.1 e⟩
/-- What Find answers in ns at s, in every world that holds the table. -/
abbrev FindIs (ns : List Nm) (s : ByteArray) (fi fe : Int) : Prop := ∀ v w, Nms w v ns → Calls Try.prog 5 #[v, .string s] w fun e w' => e = .returned (.tuple #[.int .i64 fi, .int .i64 fe]) ∧ Below w.heap.size w w'
abbrev OfIs (ns : List Nm) (x : Int) (st : ByteArray) (fe : Int) : Prop := ∀ v w, Nms w v ns → Calls Try.prog 6 #[v, .int .i64 x] w fun e w' => e = .returned (.tuple #[.string st, .int .i64 fe]) ∧ Below w.heap.size w w'
theorem keep2 {N : Nat} {w w' : World} {x : ByteArray} {y : Int} {c : Nat} {t : TypeId} (h : Below ((w.alloc (.cells #[.string x, .int .i64 y] t)).heap.size) (w.alloc (.cells #[.string x, .int .i64 y] t)) w') :
    w'.cell? ⟨w.heap.size, 0, none⟩ = some (.string x) ∧ w'.cell? ⟨w.heap.size, 1, none⟩ = some (.int .i64 y) := by
  constructor
  · rw [h.cell (by simp)]; simp
  · rw [h.cell (by simp)]; simp
set_option maxHeartbeats 4000000 in
theorem core (zs : List Int) (ns : List Nm) (v0 : Value) (at0 : Int) (s : ByteArray) (x : Int) (w : World) (hv : Ints .i64 w v0 zs) (hlz : zs.length ≤ maxLen) (hwf : ∀ n ∈ zs, (Lit.int .i64 n).wf = true) (hat : (Lit.int .i64 at0).wf = true)
    (hns : tabOf zs = ns) (hr : faultR ns = 0) (hz : 0 < ns.length) (fi fe ff : Int) (st : ByteArray) (kT kL : Bool) (hF : FindIs ns s fi fe) (hO : OfIs ns x st ff) (hT : seenT ns s ns.length = kT) (hL : seenL ns x ns.length = kL)
    (cT : (kT = true ∧ fe = 0) ∨ (kT = false ∧ fe = 12 ∧ fi = 0)) (cL : (kL = true ∧ ff = 0) ∨ (kL = false ∧ ff = 12 ∧ st = ByteArray.empty)) :
    Calls Try.prog 3 #[v0, .int .i64 at0, .string s, .int .i64 x] w fun e w' => e = .returned (.bool true) ∧ Below w.heap.size w w' := by
  have hl := (fault_ok hr).1
  have HF : Hid (FindIs ns s fi fe) := hF
  have HO : Hid (OfIs ns x st ff) := hO
  have HT : Hid (Calls Try.prog 4 #[v0] w fun e w' => ∃ v, e = .returned v ∧ Nms w' v ns ∧ Below w.heap.size w w') := by have h := table_any v0 zs w hv hlz hwf; rw [hns] at h; exact h
  have hpk := pk_bd at0 ns.length (by omega)
  obtain ⟨j, hj⟩ : ∃ j : Nat, pk at0 ns.length = (j : Int) := ⟨(pk at0 ns.length).toNat, by omega⟩
  have hjl : j < ns.length := by omega
  have HJ : Hid (pk at0 ns.length = (j : Int)) := hj
  have HF2 : Hid (FindIs ns (nm ns j).1 (nm ns j).2 0) := fun v w h => find_hit v ns _ w h (by unfold maxLen; omega) (by have := text_at (fault_ok hr).2.2.1 hjl; unfold maxLen; omega) hr j ⟨hjl, rfl⟩ _ rfl
  have HO2 : Hid (OfIs ns (nm ns j).2 (nm ns j).1 0) := fun v w h => of_hit v ns _ w h (by unfold maxLen; omega) (lab_at (fault_ok hr).2.1 hjl) hr j ⟨hjl, rfl⟩ _ rfl
  have HE1 : Hid (seenT ns s ns.length = kT) := hT
  have HE2 : Hid (seenL ns x ns.length = kL) := hL
  have CT : Hid ((kT = true ∧ fe = 0) ∨ (kT = false ∧ fe = 12 ∧ fi = 0)) := cT
  have CL : Hid ((kL = true ∧ ff = 0) ∨ (kL = false ∧ ff = 12 ∧ st = ByteArray.empty)) := cL
  have HA : Hid ((Lit.int .i64 at0).wf = true) := hat
  have HZ : Hid (0 < ns.length) := hz
  clear hF hO hT hL cT cL hv hwf hj hpk hat hns hr hz
  generalize hn : ns.length = n at *
  have hnn : (0 : Int) < (n : Int) := by omega
  have hn0 : ((n : Int) == 0) = false := beq_eq_false_iff_ne.2 (by omega)
  have hnot : ∀ (x : Bool) (w : World), (Op.unary .not (.bool x)).run Try.prog w = .ok (.bool (!x)) w := fun _ _ => rfl
  go_enter Try.func3, Try.ntmps3
  go_wp2_with (first
    | (go_at_call 4; (with_reducible refine HT.out.mono ?_); rintro e w1 ⟨v, rfl, hi, hb⟩; have HN1 : Hid (Nms w1 v ns) := hi; have HB1 : Hid (Below w.heap.size w w1) := hb; clear hi hb)
    | (go_at_call 5; (with_reducible refine (HF.out _ _ HN1.out).mono ?_); rintro e w2 ⟨rfl, hb⟩; have HN2 : Hid (Nms w2 v ns) := HN1.out.later hb (Nat.le_refl _); have HB2 : Hid (Below w.heap.size w w2) := HB1.out.trans (hb.mono HB1.out.size); clear hb)
    | (go_at_call 6; (with_reducible refine (HO.out _ _ HN2.out).mono ?_); rintro e w3 ⟨rfl, hb⟩; have HN3 : Hid (Nms w3 v ns) := HN2.out.later hb (Nat.le_refl _); have HB3 : Hid (Below w.heap.size w w3) := HB2.out.trans (hb.mono HB2.out.size); clear hb))
  obtain ⟨b, off, cap, rfl, hbl, hc⟩ := HN3.out.plain (by rw [hn]; exact HZ.out)
  rw [hn] at hc HN3 ⊢
  have HC : Hid (∀ j, j < n → w3.cell? ⟨b, off + j * 2, none⟩ = some (.string (nm ns j).1) ∧ w3.cell? ⟨b, off + j * 2 + 1, none⟩ = some (.int .i64 (nm ns j).2)) := hc
  clear hc HF HO HT HN1 HN2
  go_loop [14, 15, 16] (fun p q i => ∃ k : Nat, k ≤ n ∧ i = .int .i64 k ∧ p = .bool (seenT ns s k) ∧ q = .bool (seenL ns x k)) (fun _ _ i => n - (intOf i).toNat)
  case atStart => exact ⟨0, Nat.zero_le _, rfl, rfl, rfl⟩
  case round =>
    obtain ⟨k, hk, rfl, rfl, rfl⟩ := hrel
    by_cases hlt : k < n
    · have g1 := (HC.out k hlt).1
      have g2 := (HC.out k hlt).2
      have hlt' : (k : Int) < (n : Int) := by omega
      have H1 : Hid (seenT ns s (k + 1) = (seenT ns s k || ((nm ns k).1.toList == s.toList))) := seenT_succ ns s k
      have H2 : Hid (seenL ns x (k + 1) = (seenL ns x k || ((nm ns k).2 == x))) := seenL_succ ns x k
      generalize (nm ns k).1 = t at g1 H1
      generalize (nm ns k).2 = l at g2 H2
      generalize seenT ns s k = a at H1
      generalize seenL ns x k = c at H2
      rcases bool_cases a with rfl | rfl <;> rcases bool_cases (t.toList == s.toList) with ht | ht <;> rcases bool_cases c with rfl | rfl <;> rcases bool_cases (l == x) with hl2 | hl2
      all_goals
        have H1' : Hid (seenT ns s (k + 1) = _) := H1.out.trans (by rw [ht])
        have H2' : Hid (seenL ns x (k + 1) = _) := H2.out.trans (by rw [hl2])
        clear H1 H2
        go_wp2
        go_round
        case rel => exact ⟨k + 1, by omega, by go_num, by rw [H1'.out]; rfl, by rw [H2'.out]; rfl⟩
        case measure => simp [intOf]; omega
    · have hke : k = n := by omega
      have E1 : seenT ns s k = kT := by rw [hke]; exact HE1.out
      have E2 : seenL ns x k = kL := by rw [hke]; exact HE2.out
      have hnl : ¬ (k : Int) < (n : Int) := by omega
      rw [E1, E2]
      clear hke E1 E2 HE1 HE2
      have hjc1 := (HC.out j hjl).1
      have hjc2 := (HC.out j hjl).2
      have hjl' : (j : Int) < (n : Int) := by omega
      generalize (nm ns j).1 = t at hjc1 HF2 HO2
      generalize (nm ns j).2 = l at hjc2 HF2 HO2
      have ht : (t.toList == t.toList) = true := beq_self_eq_true _
      have HN4 : Hid (Nms (w3.alloc (.cells #[.string t, .int .i64 l] 31)) (.slice (some ⟨b, off, none⟩) n cap) ns) := HN3.out.later ((Below.refl _ _).alloc (Nat.le_refl _) _) (Nat.le_refl _)
      have HB4 : Hid (Below w.heap.size w (w3.alloc (.cells #[.string t, .int .i64 l] 31))) := HB3.out.alloc HB3.out.size _
      clear HC HN3
      rcases CT.out with ⟨rfl, rfl⟩ | ⟨rfl, rfl, rfl⟩ <;> rcases CL.out with ⟨rfl, rfl⟩ | ⟨rfl, rfl, rfl⟩
      all_goals
        go_wp2_with (first
          | (go_at_call 7; (refine (picked_any _ _ _ HA.out hnn (by omega)).mono ?_); rw [HJ.out]; rintro e w' ⟨rfl, rfl⟩)
          | (go_at_call 5; (with_reducible refine (HF2.out _ _ HN4.out).mono ?_); rintro e w5 ⟨rfl, hb⟩; have q5 := (keep2 (N := 0) (c := 0) hb).1; have q6 := (keep2 (N := 0) (c := 0) hb).2; have HN5 : Hid (Nms w5 (.slice (some ⟨b, off, none⟩) n cap) ns) := HN4.out.later hb (Nat.le_refl _); have HB5 : Hid (Below (w3.alloc (.cells #[.string t, .int .i64 l] 31)).heap.size (w3.alloc (.cells #[.string t, .int .i64 l] 31)) w5) := hb; clear hb)
          | (go_at_call 6; (with_reducible refine (HO2.out _ _ HN5.out).mono ?_); rintro e w6 ⟨rfl, hb⟩; have hb6 := HB5.out.trans (hb.mono HB5.out.size); have q7 := (keep2 (N := 0) (c := 0) hb6).1; have q8 := (keep2 (N := 0) (c := 0) hb6).2; have HB6 : Hid (Below w.heap.size w w6) := HB4.out.trans (hb6.mono HB4.out.size); clear hb hb6))
        go_ret
        exact ⟨rfl, HB6.out⟩
theorem core0 (zs : List Int) (v0 : Value) (at0 : Int) (s : ByteArray) (x : Int) (w : World) (hv : Ints .i64 w v0 zs) (hlz : zs.length ≤ maxLen) (hwf : ∀ n ∈ zs, (Lit.int .i64 n).wf = true)
    (hns : tabOf zs = []) (hF : FindIs [] s 0 12) (hO : OfIs [] x ByteArray.empty 12) :
    Calls Try.prog 3 #[v0, .int .i64 at0, .string s, .int .i64 x] w fun e w' => e = .returned (.bool true) ∧ Below w.heap.size w w' := by
  have HF : Hid (FindIs [] s 0 12) := hF
  have HO : Hid (OfIs [] x ByteArray.empty 12) := hO
  have HT : Hid (Calls Try.prog 4 #[v0] w fun e w' => ∃ v, e = .returned v ∧ Nms w' v [] ∧ Below w.heap.size w w') := by have h := table_any v0 zs w hv hlz hwf; rw [hns] at h; exact h
  clear hF hO hv hwf hns
  have hnot : ∀ (x : Bool) (w : World), (Op.unary .not (.bool x)).run Try.prog w = .ok (.bool (!x)) w := fun _ _ => rfl
  go_enter Try.func3, Try.ntmps3
  go_wp2_with (first
    | (go_at_call 4; (with_reducible refine HT.out.mono ?_); rintro e w1 ⟨v, rfl, hi, hb⟩; have HN1 : Hid (Nms w1 v []) := hi; have HB1 : Hid (Below w.heap.size w w1) := hb; clear hi hb)
    | (go_at_call 5; (with_reducible refine (HF.out _ _ HN1.out).mono ?_); rintro e w2 ⟨rfl, hb⟩; have HN2 : Hid (Nms w2 v []) := HN1.out.later hb (Nat.le_refl _); have HB2 : Hid (Below w.heap.size w w2) := HB1.out.trans (hb.mono HB1.out.size); clear hb)
    | (go_at_call 6; (with_reducible refine (HO.out _ _ HN2.out).mono ?_); rintro e w3 ⟨rfl, hb⟩; have HN3 : Hid (Nms w3 v []) := HN2.out.later hb (Nat.le_refl _); have HB3 : Hid (Below w.heap.size w w3) := HB2.out.trans (hb.mono HB2.out.size); clear hb))
  obtain ⟨a, cap, rfl⟩ := HN3.out.empty
  refine wp_loop_rounds 1 ?_; rw [rounds_succ]
  go_wp2
  go_ret
  exact ⟨rfl, HB3.out⟩
theorem walk (a0 : Option Addr) (len0 cap0 : Nat) (z0 : List Int) (at0 : Int) (s : ByteArray) (x : Int) (w : World) (w0 : IsRow .i64 w a0 len0 cap0 z0 ∧ cap0 * 8 ≤ 140737488351232) (w1 : (Lit.int .i64 at0).wf = true) (hs : s.size ≤ maxLen) (hx : (Lit.int .i64 x).wf = true) :
    Calls Try.prog 3 #[.slice a0 len0 cap0, .int .i64 at0, .string s, .int .i64 x] w fun e w' => e = .returned (.bool true) ∧ Below w.heap.size w w' := by
  obtain ⟨h1, h2, h3⟩ := Ints.ofRow w0.1
  have hwf : ∀ n ∈ z0.take len0, (Lit.int .i64 n).wf = true := fun n hn => w0.1.wf n (List.mem_of_mem_take hn)
  have hlz : (z0.take len0).length ≤ maxLen := by have := w0.2; unfold maxLen; omega
  have hr := tabOf_right (z0.take len0)
  generalize hns : tabOf (z0.take len0) = ns at hr
  have hl := (fault_ok hr).1
  have hm : ns.length ≤ maxLen := by unfold maxLen; omega
  by_cases hz : 0 < ns.length
  · by_cases hj : ∃ j, textAt ns s j
    · obtain ⟨j, hj⟩ := hj
      by_cases hk : ∃ j, labAt ns x j
      · obtain ⟨k, hk⟩ := hk
        exact core _ ns _ at0 s x w h1 hlz hwf w1 hns hr hz _ 0 0 _ true true (fun v w h => find_hit v ns s w h hm hs hr j hj _ rfl) (fun v w h => of_hit v ns x w h hm hx hr k hk _ rfl) (seenT_hit hj) (seenL_hit hk) (.inl ⟨rfl, rfl⟩) (.inl ⟨rfl, rfl⟩)
      · have hk' : ∀ j, ¬ labAt ns x j := fun j h => hk ⟨j, h⟩
        exact core _ ns _ at0 s x w h1 hlz hwf w1 hns hr hz _ 0 12 _ true false (fun v w h => find_hit v ns s w h hm hs hr j hj _ rfl) (fun v w h => of_miss v ns x w h hm hx hr hk') (seenT_hit hj) (seenL_miss hk') (.inl ⟨rfl, rfl⟩) (.inr ⟨rfl, rfl, rfl⟩)
    · have hj' : ∀ j, ¬ textAt ns s j := fun j h => hj ⟨j, h⟩
      by_cases hk : ∃ j, labAt ns x j
      · obtain ⟨k, hk⟩ := hk
        exact core _ ns _ at0 s x w h1 hlz hwf w1 hns hr hz _ 12 0 _ false true (fun v w h => find_miss v ns s w h hm hs hr hj') (fun v w h => of_hit v ns x w h hm hx hr k hk _ rfl) (seenT_miss hj') (seenL_hit hk) (.inr ⟨rfl, rfl, rfl⟩) (.inl ⟨rfl, rfl⟩)
      · have hk' : ∀ j, ¬ labAt ns x j := fun j h => hk ⟨j, h⟩
        exact core _ ns _ at0 s x w h1 hlz hwf w1 hns hr hz _ 12 12 _ false false (fun v w h => find_miss v ns s w h hm hs hr hj') (fun v w h => of_miss v ns x w h hm hx hr hk') (seenT_miss hj') (seenL_miss hk') (.inr ⟨rfl, rfl, rfl⟩) (.inr ⟨rfl, rfl, rfl⟩)
  · obtain rfl : ns = [] := List.eq_nil_of_length_eq_zero (by omega)
    exact core0 _ _ at0 s x w h1 hlz hwf hns (fun v w h => find_miss v [] s w h hm hs hr (fun j k => absurd k.1 (Nat.not_lt_zero _))) (fun v w h => of_miss v [] x w h hm hx hr (fun j k => absurd k.1 (Nat.not_lt_zero _)))

set_option maxRecDepth 100000 in
theorem lifted (os : Os) (started : os.Started) (H : Type) (enc : TypeId × Value → H) :
    ReturnsInHanded {} Try.checked os 3 .any (Rows.namesTurnSpec.pre6 enc Try.prog Try.f3 Rows.namesTurnRow.domain false) (Rows.namesTurnSpec.post enc Try.prog Try.f3 false true false false) := by
  refine returnsInHanded_of_change_sized (C := Try.checked) own started (by kernel_rfl) Try.func3
    (ChangeSpec.witness6 (enc := enc) (C := Try.checked) false ⟨#[], #[.slice none 0 0, .int .i64 0, .string ByteArray.empty, .int .i64 0], []⟩ 8 (by kernel_rfl) (by kernel_rfl) (by kernel_rfl) (by kernel_rfl)) ?_
  intro W base args ds gs before hval0 hW hcnd hsz0 _
  have hsz : (DataW.weightsEach Try.prog (Try.f3.params.toList ++ Rows.namesTurnSpec.plain.varTypes Try.prog) (ds ++ gs)).all (· ≤ reachBytes) = true := hsz0
  have hval : ∀ (j : Nat) t v, Try.f3.params[j]? = some t → args[j]? = some v → Value.okWide Try.prog W .any base t v := hval0
  clear hval0 hsz0
  have hW' := hW
  obtain ⟨p, q, hA0, hV, rfl, hfz, hnd⟩ := hW
  have hA : DataW.TrodAll enc Try.prog W 0 (fun _ => true) true Try.f3.params.toList args.toList ds p := hA0
  rw [Try.params3] at hA hval hsz
  obtain ⟨v0, vs0, d0, ds0, p0, q0, hargs, rfl, rfl, h0, r0⟩ := trodAll_cons hA
  obtain ⟨v1, vs1, d1, ds1, p1, q1, rfl, rfl, rfl, h1, r1⟩ := trodAll_cons r0
  obtain ⟨v2, vs2, d2, ds2, p2, q2, rfl, rfl, rfl, h2, r2⟩ := trodAll_cons r1
  obtain ⟨v3, vs3, d3, ds3, p3, q3, rfl, rfl, rfl, h3, r3⟩ := trodAll_cons r2
  obtain ⟨rfl, rfl, rfl⟩ := trodAll_nil r3
  obtain rfl : args = #[v0, v1, v2, v3] := by cases args; simp_all
  obtain ⟨rfl, rfl⟩ := trodVars_none hV
  obtain ⟨a0, len0, cap0, rfl⟩ := okWide_slice Try.underlying22 (hval 0 22 v0 rfl rfl)
  have k0 := h0
  have lt0 : ∀ x ∈ p0, x.block < W.heap.size := by obtain ⟨m, hm⟩ := k0; exact DataW.trod_lt m _ _ _ hm
  obtain ⟨z0, w0⟩ : ∃ zs, IsRow .i64 W a0 len0 cap0 zs ∧ cap0 * 8 ≤ 140737488351232 := by
    obtain ⟨fuel, hf⟩ := h0
    rcases open_ints Try.underlying22 Try.underlying3 (by kernel_rfl) hf with ⟨hcs, _⟩ | ⟨x, l, c, zs, hcs, _, hl, hm, hz, hx, hcell, hwz⟩
    · simp [Value.cells] at hcs
      obtain ⟨rfl, rfl, rfl⟩ := hcs
      exact ⟨[], .inl ⟨rfl, rfl, rfl, rfl⟩, by omega⟩
    · have hd := congrArg Prod.fst hx
      have hsw := sized_slice hsz (j := 0) (t := 22) (e := 3) rfl (congrArg some hd) Try.underlying22
      have hby : Try.prog.bytesOf 3 = 8 := by kernel_rfl
      rw [hby] at hsw
      simp [Value.cells] at hcs
      obtain ⟨rfl, rfl, rfl⟩ := hcs
      have hz' : zs.length = cap0 := by simpa using hz
      simp only [lits, List.length_map, List.length_take, List.length_drop, reachBytes] at hsw
      exact ⟨zs, .inr ⟨_, rfl, hl, hm, hz', hcell, hwz⟩, by omega⟩
  obtain ⟨a1, rfl, rfl, rfl, w1⟩ := open_int Try.underlying3 (hval 1 3 v1 rfl rfl) h1
  obtain ⟨a2, rfl, rfl, rfl, w2⟩ := open_string Try.underlying9 (hval 2 9 v2 rfl rfl) h2
  obtain ⟨a3, rfl, rfl, rfl, w3⟩ := open_int Try.underlying3 (hval 3 3 v3 rfl rfl) h3
  refine (walk a0 len0 cap0 z0 a1 a2 a3 W w0 w1 w2 w3).mono fun e W' ⟨he, bel⟩ => ?_
  subst he
  exact ⟨_, rfl, _, _, _, [], _, [], hW', trodAll_mk1 (shut_bool Try.underlying4 _), (trodAll_cons_mk (Below.trod laidOut (by kernel_rfl) (of_decide_eq_true (by kernel_rfl)) k0 bel lt0) (trodAll_cons_mk (shut_int Try.underlying3 w1) (trodAll_cons_mk (shut_string Try.underlying9 w2) (trodAll_cons_mk (shut_int Try.underlying3 w3) trodAll_mk0)))), rfl, bel.frame _, fun h => by cases h⟩
end Go.Proofs.Ytljpbkkofalinab.namesTurn
namespace Go.Proofs.Ytljpbkkofalinab
theorem namesTurn_holds : Rows.NamesTurnSaid :=
  OpenClaim.holds_of_wide 3 Try.f3 rfl rfl rfl rfl rfl rfl rfl ⟨rfl, rfl, rfl, rfl, rfl⟩ rfl rfl rfl rfl rfl (by kernel_rfl) Try.func3 (by kernel_rfl)
    (of_decide_eq_true (by kernel_rfl)) (by unfold Func.isWrapper; first | (rw [if_pos (by decide +kernel)]; kernel_rfl) | (rw [if_neg (by decide +kernel)]; exact ⟨rfl, rfl⟩))
    (fun os started H enc _ => namesTurn.lifted os started H enc)
#print axioms namesTurn_holds
end Go.Proofs.Ytljpbkkofalinab
