/- What the reference's NamesRead answers. -/
import Derived.Test.YtljpbkkofalinaaDoorSs
import Derived.Test.YtljpbkkofalinaaDoorNu
import Derived.Test.YtljpbkkofalinaaDoorNmF
namespace Go.Proofs.YtljpbkkofalinaaDoor.Wt
open Go.ChangeShapes Go.WideShapes Go.ChangeAt Go.RowKit
open Go.Proofs.YtljpbkkofalinaaDoor.Pl
set_option linter.unusedVariables false
def lineN (x : List UInt8) : Option Nm :=
  if (partsL x).length = 2 then some (textS ((partsL x)[0]?.getD []), numR (textS ((partsL x)[1]?.getD [])) 1000) else none
def xsOf (s : ByteArray) : List (List UInt8) := (cutTo 10 s.data.toList s.size).1
def nmsR (xs : List (List UInt8)) (k : Nat) : List Nm := (xs.take k).filterMap lineN
def OkR (s : ByteArray) : Prop := (cutTo 10 s.data.toList s.size).2 = s.size ∧ (xsOf s).length ≤ 100 ∧ (∀ x ∈ xsOf s, lineN x ≠ none) ∧ faultR ((xsOf s).filterMap lineN) = 0
theorem nmsR_succ {xs : List (List UInt8)} {k : Nat} (h : k < xs.length) {q : Nm} (hq : lineN (xs[k]?.getD []) = some q) : nmsR xs (k + 1) = nmsR xs k ++ [q] := by
  unfold nmsR
  rw [List.take_succ_eq_append_getElem h, List.filterMap_append]
  rw [List.getElem?_eq_getElem h] at hq
  simp at hq
  simp [hq]
theorem nmsR_all (xs : List (List UInt8)) : nmsR xs xs.length = xs.filterMap lineN := by unfold nmsR; rw [List.take_length]
theorem cutTo_small (c : UInt8) (l : List UInt8) {x : List UInt8} (k : Nat) (hk : k ≤ l.length) (h : x ∈ (cutTo c l k).1) : x.length ≤ l.length := by
  obtain ⟨h1, _, _⟩ := cutTo_join c l k hk
  have e := congrArg List.length h1
  rw [List.length_append] at e
  have hm : x.length ≤ (joinC c (cutTo c l k).1).length := by
    unfold joinC
    generalize (cutTo c l k).1 = o at h
    induction o with
    | nil => simp at h
    | cons y o ih =>
      rw [List.flatMap_cons, List.length_append, List.length_append]
      rcases List.mem_cons.1 h with g | g
      · subst g; omega
      · have := ih g; omega
  have : (l.take k).length ≤ l.length := by rw [List.length_take]; omega
  omega
theorem line_some {x : List UInt8} {q : Nm} (h : lineN x = some q) : (partsL x).length = 2 ∧ q.1 = textS ((partsL x)[0]?.getD []) ∧ numR (textS ((partsL x)[1]?.getD [])) 1000 = q.2 := by
  unfold lineN at h
  split at h
  · rename_i e
    simp at h
    rw [← h]
    exact ⟨e, rfl, rfl⟩
  · simp at h
theorem line_none {x : List UInt8} (h : lineN x = none) : ¬ (partsL x).length = 2 := by
  intro e
  unfold lineN at h
  rw [if_pos e] at h
  simp at h
theorem hid_of {p : Prop} (h : p) : Hid p := h
theorem two_of {α : Type} {l : List α} (h : l.length = 2) : ∃ a b, l = [a, b] := by
  match l, h with
  | [a, b], _ => exact ⟨a, b, rfl⟩
theorem row_laterN {W W' : World} {B : Nat} {e : TypeId} {sz : Nat} {v : Value} {n : Nat} {xs : List Value} (h : W.ownsRow B e sz v n xs) (hb : Below W.heap.size W W') : W'.ownsRow B e sz v n xs :=
  h.kept (row := none) ⟨hb.os, hb.tape, hb.output, hb.size, fun k hk _ => hb.block k hk⟩ (by
    cases hv : v.ownBlock with
    | none => exact .inl rfl
    | some k => exact .inr (by simp))
theorem one_name (W : World) (t : ByteArray) (n : Int) : Nms (W.alloc (.cells #[.string t, .int .i64 n] 36)) (.slice (some ⟨W.heap.size, 0, none⟩) 1 1) [(t, n)] := by
  refine .inr ⟨⟨W.heap.size, 0, none⟩, 1, rfl, fun j hj => ?_⟩
  obtain rfl : j = 0 := by simpa using hj
  simp [Addr.add, nm]
theorem below_up {B0 : Nat} {w1 wr w2 w4 : World} {o : Obj} (h1 : Below w1.heap.size w1 wr) (h2 : Below wr.heap.size wr w2) (h3 : Below B0 (w2.alloc o) w4) (h0 : B0 ≤ w1.heap.size) : Below B0 w1 w4 :=
  ((h1.mono h0).trans (h2.mono (Nat.le_trans h0 h1.size))).alloc (Nat.le_trans h0 (Nat.le_trans h1.size h2.size)) o |>.trans h3
def RefR (s : ByteArray) (w : World) (e : Ending) (w' : World) : Prop :=
  Below w.heap.size w w' ∧ ((OkR s ∧ ∃ v, e = .returned (.tuple #[v, .int .i64 0]) ∧ Nms w' v ((xsOf s).filterMap lineN)) ∨ (¬ OkR s ∧ e = .returned (.tuple #[.slice none 0 0, .int .i64 3])))
theorem part_le (x : List UInt8) : ((partsL x)[1]?.getD []).length ≤ x.length := by
  have h := cut_all 32 x
  have e : x.length = (joinC 32 (cutTo 32 x x.length).1).length + (cutEnd 32 x).length := by
    have := congrArg List.length h.1
    rw [List.length_append] at this
    exact this
  cases hp : (partsL x)[1]? with
  | none => simp
  | some y =>
    have hm : y ∈ partsL x := List.mem_of_getElem? hp
    unfold partsL at hm
    rcases List.mem_append.1 hm with g | g
    · have := cutTo_small 32 x x.length (Nat.le_refl _) g
      simpa using this
    · simp only [List.mem_singleton] at g
      subst g
      simp only [Option.getD_some]
      omega
set_option maxRecDepth 100000 in
set_option maxHeartbeats 4000000 in
theorem nread_core (s : ByteArray) (w : World) (hs : s.size ≤ 20000) :
    Calls Tryd.prog 11 #[.string s] w fun e w' => RefR s w e w' := by
  obtain ⟨i0, hi, hz0, hz1, hz2⟩ := info_parts infoName
  have hlen : ¬ (20000 : Int) < (s.size : Int) := by omega
  have hnot : ∀ (x : Bool) (w : World), (Op.unary .not (.bool x)).run Tryd.prog w = .ok (.bool (!x)) w := fun _ _ => rfl
  have HL : Hid (Calls Tryd.prog 21 #[.string s] w fun e w' => ∃ v, e = .returned (.tuple #[v, .bool (decide ((cutTo 10 s.data.toList s.size).2 = s.size))]) ∧ Strs w' v (xsOf s) ∧ Below w.heap.size w w') := linesR_any s w hs
  have HXL : Hid (∀ x ∈ xsOf s, x.length ≤ 20000) := fun x hx => by
    have hsl : s.data.toList.length = s.size := by simp
    have := cutTo_small 10 s.data.toList s.size (by omega) hx
    omega
  by_cases ho : (cutTo 10 s.data.toList s.size).2 = s.size
  · rw [decide_eq_true ho] at HL
    have HO : Hid ((cutTo 10 s.data.toList s.size).2 = s.size) := ho
    clear ho
    by_cases hm : (xsOf s).length ≤ 100
    · have hm' : ¬ (100 : Int) < ((xsOf s).length : Int) := by omega
      have HOK : Hid (∀ (_ : ∀ x ∈ xsOf s, lineN x ≠ none) (_ : faultR ((xsOf s).filterMap lineN) = 0), OkR s) := fun a b => ⟨HO.out, hm, a, b⟩
      by_cases hz : 0 < (xsOf s).length
      · generalize hxs : xsOf s = xs at *
        have HXS : Hid (xsOf s = xs) := hxs
        generalize hmm : xs.length = m at *
        go_enter Tryd.func11, Tryd.ntmps11
        go_wp2_with (first | (go_at_call 21; (with_reducible refine HL.out.mono ?_); rintro e w1 ⟨v, rfl, hS, hb1⟩; obtain ⟨lb, loff, lcap, rfl, hlbl, hlc⟩ := hS.plain (by rw [hmm]; exact hz); rw [hmm] at hlc))
        have HLC : Hid (∀ j, j < m → w1.cell? ⟨lb, loff + j, none⟩ = some (.string (textS (xs[j]?.getD [])))) := hlc
        have hs1 := hb1.size
        clear hlc hS
        go_loopw [6, 7] (fun v i wr => ∃ k : Nat, k ≤ m ∧ i = .int .i64 k ∧ Hid (∀ j, j < k → lineN (xs[j]?.getD []) ≠ none) ∧ Hid ((nmsR xs k).length = k) ∧ Hid (wr.ownsRow w1.heap.size 36 2 v (nmsR xs k).length (cellsOfNames (nmsR xs k))) ∧ Below w1.heap.size w1 wr) (fun _ i _ => m - (intOf i).toNat)
        case atStart => exact ⟨0, Nat.zero_le _, rfl, fun j hj => absurd hj (Nat.not_lt_zero _), rfl, World.ownsRow_nil _ _ _ _, Below.refl _ _⟩
        case round =>
          obtain ⟨k, hk, rfl, hok, hkl, hown, hb⟩ := hrel
          have hws := hb.size
          have HBW : Hid (Below w.heap.size w wr) := hb1.trans (hb.mono hs1)
          by_cases hlt : k < m
          · have hlt' : (k : Int) < (m : Int) := by omega
            have g1 := (hb.cell (p := ⟨lb, loff + k, none⟩) hlbl).trans (HLC.out k hlt)
            have hmem : xs[k]?.getD [] ∈ xs := by rw [List.getElem?_eq_getElem (by omega)]; exact List.getElem_mem _
            have hxl := HXL.out _ hmem
            have HPL : Hid (((partsL (xs[k]?.getD []))[1]?.getD []).length ≤ (xs[k]?.getD []).length) := part_le _
            cases hq : lineN (xs[k]?.getD []) with
            | none =>
              have h2 := line_none hq
              have HNO : Hid (¬ OkR s) := fun h => h.2.2.1 _ (by rw [HXS.out]; exact hmem) hq
              clear hq hmem hok
              generalize xs[k]?.getD [] = x at g1 hxl h2
              have h2' : (((partsL x).length : Int) != 2) = true := bne_iff_ne.2 (by omega)
              have HPC : Hid (∀ W : World, Calls Tryd.prog 22 #[.string (textS x)] W fun e w' => ∃ v, e = .returned v ∧ Strs w' v (partsL x) ∧ Below W.heap.size W w') := fun W => parts_any (textS x) W hxl
              go_wp2_with (first | (go_at_call 22; (with_reducible refine (HPC.out _).mono ?_); rintro e w2 ⟨v2, rfl, hS2, hb2⟩; obtain ⟨a2, cap2, rfl⟩ := hS2.sl))
              go_ret2
              exact ⟨HBW.out.trans (hb2.mono HBW.out.size), .inr ⟨HNO.out, rfl⟩⟩
            | some q =>
              obtain ⟨h2, h3, h4⟩ := line_some hq
              have HN : Hid (nmsR xs (k + 1) = nmsR xs k ++ [q]) := nmsR_succ (by omega) hq
              have HOK2 : Hid (∀ j, j < k + 1 → lineN (xs[j]?.getD []) ≠ none) := fun j hj => by
                rcases Nat.lt_succ_iff_lt_or_eq.1 hj with g | g
                · exact hok.out j g
                · subst g; rw [hq]; simp
              clear hq hmem hok
              generalize xs[k]?.getD [] = x at g1 hxl h2 h3 h4 HPL
              obtain ⟨t, n⟩ := q
              obtain ⟨y0, y1, hy⟩ := two_of h2
              have HPC : Hid (∀ W : World, Calls Tryd.prog 22 #[.string (textS x)] W fun e w' => ∃ v, e = .returned v ∧ Strs w' v [y0, y1] ∧ Below W.heap.size W w') := fun W => by have h := parts_any (textS x) W hxl; rw [show (textS x).data.toList = x from rfl, hy] at h; exact h
              rw [hy] at h3 h4
              have hpl2 := HPL.out
              rw [hy] at hpl2
              clear h2 HPL hy
              have h3' : t = textS y0 := h3
              have h4' : numR (textS y1) 1000 = n := h4
              have hds : (textS y1).size ≤ maxLen := by show y1.length ≤ _; have e : y1.length ≤ x.length := hpl2; unfold maxLen; omega
              clear h3 h4 hpl2
              subst h3'
              have HD : Hid (numR (textS y1) 1000 = n) := h4'
              have HS2 : Hid (∀ (w2 : World) (v2 : Value), Strs w2 v2 [y0, y1] → ∃ pb poff pcap, v2 = .slice (some ⟨pb, poff, none⟩) 2 pcap ∧ w2.cell? ⟨pb, poff, none⟩ = some (.string (textS y0)) ∧ w2.cell? ⟨pb, poff + 1, none⟩ = some (.string (textS y1)) ∧ pb < w2.heap.size) := fun w2 v2 hS2 => by
                obtain ⟨pb, poff, pcap, e, hpl, hpc⟩ := hS2.plain (by simp)
                exact ⟨pb, poff, pcap, e, hpc 0 (by simp), hpc 1 (by simp), hpl⟩
              clear h4'
              generalize textS y0 = t at HS2 HN
              generalize textS y1 = d at HS2 HD hds
              have HR : Hid (∀ w2 : World, Below wr.heap.size wr w2 → ∀ v, wr.ownsRow w1.heap.size 36 2 v (nmsR xs k).length (cellsOfNames (nmsR xs k)) → (w2.alloc (.cells #[.string t, .int .i64 n] 36)).ownsRow w1.heap.size 36 2 v (nmsR xs k).length (cellsOfNames (nmsR xs k))) := fun w2 hb2 v h => (row_laterN h hb2).alloc _
              have HX1 : Hid (∀ w2 : World, Nms (w2.alloc (.cells #[.string t, .int .i64 n] 36)) (.slice (some ⟨w2.heap.size, 0, none⟩) 1 1) [(t, n)]) := fun w2 => one_name w2 t n
              have HV : Hid ((nmsR xs k).length + [(t, n)].length ≤ maxLen) := by show _ ≤ _; rw [hkl.out]; unfold maxLen; simp; omega
              have HY : Hid (((nmsR xs k).length + [(t, n)].length) * 24 ≤ 140737488355328) := by show _ ≤ _; rw [hkl.out]; simp; omega
              have HWS : Hid (w1.heap.size ≤ wr.heap.size) := hws
              go_wp2_with (first
                | (go_at_call 22; (with_reducible refine (HPC.out _).mono ?_); rintro e w2 ⟨v2, rfl, hS2, hb2⟩; have HB2 : Hid (Below wr.heap.size wr w2) := hb2; obtain ⟨pb, poff, pcap, rfl, p0, p1, hpl⟩ := HS2.out _ _ hS2; clear hb2 hS2)
                | (go_at_call 23; (with_reducible refine (number_any d 1000 _ hds (by decide) (by decide) n HD.out).mono ?_); rintro e w3 ⟨rfl, rfl⟩)
                | (at_builtin; refine wpList_append_names rfl _ _ 22 rfl w1.heap.size 36 i0 _ 24 Tryd.underlying22 hi hz0 hz1 hz2 rfl _ (nmsR xs k) rfl (HR.out _ HB2.out _ hown.out) _ [(t, n)] rfl (HX1.out _) HV.out HY.out (Nat.le_trans HWS.out (Nat.le_trans HB2.out.size (by simp))) ?_; intro v' w4 hown' hb4))
              go_roundw
              case rel => exact ⟨k + 1, by omega, by go_num, HOK2, by show _ = _; rw [HN.out, List.length_append, hkl.out]; rfl, by have h := hown'; show World.ownsRow _ _ _ _ _ _ _; rw [HN.out, List.length_append]; exact h, below_up hb HB2.out hb4 (Nat.le_refl _)⟩
              case measure => simp [intOf]; omega
          · have hke : k = m := by omega
            have hlt' : ¬ (k : Int) < (m : Int) := by omega
            have HNS : Hid (nmsR xs k = xs.filterMap lineN) := by show _ = _; rw [hke, ← hmm]; exact nmsR_all xs
            have HALL : Hid (∀ x ∈ xs, lineN x ≠ none) := fun x hx => by
              obtain ⟨j, hj, e⟩ := List.mem_iff_getElem.1 hx
              have := hok.out j (by omega)
              rw [List.getElem?_eq_getElem hj] at this
              simp only [Option.getD_some] at this
              rw [e] at this
              exact this
            have hNm := Nms.ofOwn hown.out
            rw [HNS.out] at hNm
            have HNm := hid_of hNm
            clear hNm
            have HMx : Hid ((xs.filterMap lineN).length ≤ maxLen) := by show _ ≤ _; rw [← HNS.out, hkl.out]; unfold maxLen; omega
            clear hke hok hkl HNS
            by_cases hf : faultR (xs.filterMap lineN) = 0
            · have HOKf : Hid (OkR s) := HOK.out HALL.out hf
              go_wp2_with (first | (go_at_call 17; (refine (fault_any _ _ _ HNm.out HMx.out).mono ?_); rw [hf]; rintro e w5 ⟨rfl, hb5⟩))
              go_ret2
              exact ⟨HBW.out.trans (hb5.mono HBW.out.size), .inl ⟨HOKf.out, _, rfl, by rw [HXS.out]; exact HNm.out.later hb5 (Nat.le_refl _)⟩⟩
            · have HNO : Hid (¬ OkR s) := fun h => hf (by have := h.2.2.2; rw [HXS.out] at this; exact this)
              have hf' : (faultR (xs.filterMap lineN) != 0) = true := bne_iff_ne.2 hf
              go_wp2_with (first | (go_at_call 17; (refine (fault_any _ _ _ HNm.out HMx.out).mono ?_); rintro e w5 ⟨rfl, hb5⟩))
              go_ret2
              exact ⟨HBW.out.trans (hb5.mono HBW.out.size), .inr ⟨HNO.out, rfl⟩⟩
      · have hx0 : xsOf s = [] := List.eq_nil_of_length_eq_zero (by omega)
        have HOKf : Hid (OkR s) := HOK.out (by rw [hx0]; simp) (by rw [hx0]; rfl)
        have HX0 : Hid (xsOf s = []) := hx0
        rw [hx0] at HL
        clear HOK HXL hm hm' hz hx0
        go_enter Tryd.func11, Tryd.ntmps11
        go_wp2_with (first | (go_at_call 21; (with_reducible refine HL.out.mono ?_); rintro e w1 ⟨v, rfl, hS, hb1⟩; obtain ⟨la, lcap, rfl⟩ := hS.sl))
        refine wp_loop_rounds 1 ?_; rw [rounds_succ]
        go_wp2_with (first | (go_at_call 17; (refine (fault_any _ [] _ (.inl ⟨rfl, rfl⟩) (by simp)).mono ?_); rw [show faultR [] = 0 from rfl]; rintro e w5 ⟨rfl, hb5⟩))
        go_ret2
        exact ⟨hb1.trans (hb5.mono hb1.size), .inl ⟨HOKf.out, _, rfl, by rw [HX0.out]; exact .inl ⟨rfl, rfl⟩⟩⟩
    · have hm' : (100 : Int) < ((xsOf s).length : Int) := by omega
      have HNO : Hid (¬ OkR s) := fun h => hm h.2.1
      clear HXL hm
      go_enter Tryd.func11, Tryd.ntmps11
      go_wp2_with (first | (go_at_call 21; (with_reducible refine HL.out.mono ?_); rintro e w1 ⟨v, rfl, hS, hb1⟩; obtain ⟨la, lcap, rfl⟩ := hS.sl))
      go_ret2
      exact ⟨hb1, .inr ⟨HNO.out, rfl⟩⟩
  · rw [decide_eq_false ho] at HL
    have HNO : Hid (¬ OkR s) := fun h => ho h.1
    clear HXL ho
    go_enter Tryd.func11, Tryd.ntmps11
    go_wp2_with (first | (go_at_call 21; (with_reducible refine HL.out.mono ?_); rintro e w1 ⟨v, rfl, hS, hb1⟩; obtain ⟨la, lcap, rfl⟩ := hS.sl))
    go_ret2
    exact ⟨hb1, .inr ⟨HNO.out, rfl⟩⟩
theorem nread_long (s : ByteArray) (w : World) (hl : 20000 < s.size) :
    Calls Tryd.prog 11 #[.string s] w fun e w' => e = .returned (.tuple #[.slice none 0 0, .int .i64 1]) ∧ Below w.heap.size w w' := by
  have hl' : (20000 : Int) < (s.size : Int) := by omega
  go_enter Tryd.func11, Tryd.ntmps11
  go_wp2
  go_ret2
  exact ⟨rfl, Below.refl _ _⟩
end Go.Proofs.YtljpbkkofalinaaDoor.Wt
