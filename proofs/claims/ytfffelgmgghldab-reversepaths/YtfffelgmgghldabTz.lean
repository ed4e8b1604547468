/- The program: the states told one by one. -/
import Derived.Test.YtfffelgmgghldabTy
namespace Go.Proofs.Ytfffelgmgghldab.Wt
open Go.ChangeShapes Go.WideShapes Go.ChangeAt Go.RowKit
open Go.Proofs.Ytfffelgmgghldab.Pl
set_option linter.unusedVariables false
set_option linter.unusedSimpArgs false
theorem told_step {n : Nat} {l : List St} {out hs hs' : List Int} {op : Nat → Nat} {x : Int} (hn : l.length = n) (h1 : StepsL l out) (h2 : WaitL n out op hs) (h3 : OpenQ l out op) (hp : (x :: hs').Perm hs) (hle : ∀ y ∈ hs', x ≤ y) :
    ∃ q : Nat, x = (q : Int) ∧ q < n ∧ StepsL l (out ++ [(q : Int)]) ∧ WaitL n (out ++ [(q : Int)]) op hs' ∧ OpenA l out q 0 op ∧ (q : Int) ∉ out := by
  subst hn
  have hx : x ∈ hs := hp.mem_iff.1 (by simp)
  obtain ⟨q, rfl, hq⟩ := h2.low x hx
  have hnx := OpenQ.next h2 h3 hx (fun y hy => by
    rcases List.mem_cons.1 (hp.mem_iff.2 hy) with e | e
    · rw [e]; exact Int.le_refl _
    · exact hle y e)
  have hno : (q : Int) ∉ out := ((h2.iff q hq).1 hx).1
  exact ⟨q, rfl, hq, h1.snoc hnx, h2.pop hp, OpenA.start h3 hno hq, hno⟩
set_option maxRecDepth 100000 in
set_option maxHeartbeats 6400000 in
theorem told_any (z : Int) (vs : Value) (l : List St) (w : World) (h : Mach w (.agg #[.int .i64 z, vs]) (z, l)) (hr : faultM (z, l) = 0) :
    Calls Try.prog 38 #[.agg #[.int .i64 z, vs]] w fun e w' => ∃ v', e = .returned v' ∧ (∃ out, Nums w' v' out ∧ ToldL l out) ∧ Below w.heap.size w w' := by
  obtain ⟨i1, hi1, hy0, hy1, hy2⟩ := info_parts infoIntH
  have HM : Hid (Mach w (.agg #[.int .i64 z, vs]) (z, l)) := h
  obtain ⟨vs', hvs, hS⟩ := h
  simp only [Value.agg.injEq, Array.mk.injEq, List.cons.injEq, and_true, true_and] at hvs
  subst hvs
  obtain ⟨a, cap, rfl, hc⟩ := hS.get
  have HC : Hid (∀ j, j < l.length → ∃ b off va, a = some ⟨b, off, none⟩ ∧ b < w.heap.size ∧ w.cell? ⟨b, off + j * 2, none⟩ = some (.int .i64 (el l j).1) ∧ w.cell? ⟨b, off + j * 2 + 1, none⟩ = some va ∧ Arcs w va (el l j).2) := hc
  have h60 := (right_size hr).1
  have HA4 : Hid (∀ j, j < l.length → (el l j).2.all (arcB l.length) = true) := fun j hj => (right_st hr hj).2
  have HSZ : Hid (arcN l ≤ 400) := (right_size hr).2
  have HR : Hid (faultM (z, l) = 0) := hr
  clear hS hc hr
  generalize hn : l.length = n at *
  have HN : Hid (l.length = n) := hn
  clear hn
  have hta := assert_int
  go_enter Try.func38, Try.ntmps38
  go_wp2_with (first
    | (go_at_call 44; (with_reducible refine (leadingTo_any z _ l _ (HM.out.later (B := w.heap.size) (by go_grown) (Nat.le_refl _)) HR.out (w.heap.size + 2) (by simp)).mono ?_); rintro e w1 ⟨he, ⟨ns, hcn, hcb⟩, hb⟩; rw [HN.out] at he hcn; subst he; obtain ⟨s1, b1, hb1⟩ := boxed hb (by simp); have HB1 : Hid (Below w.heap.size w w1) := hb1; have K0 : Hid (Blk w1 w.heap.size #[.int .i64 z, .slice a n cap] 27) := b1; have HCN : Hid (CntsL n (fun j => leadC l j n) ns) := hcn; have HCB : Hid (Blk w1 (w.heap.size + 2) (ns.map (Value.int .i64)).toArray 3) := hcb; clear hcn hcb hb s1 b1 hb1))
  have T0 : Hid (ToldAt w (w1.alloc (.cells #[.slice none 0 0] 77)) (w.heap.size + 2) w1.heap.size (w1.heap.size + 1) #[.int .i64 z, .slice a n cap] ns (.slice none 0 0) (.slice none 0 0) [] []) := by
    have h9 := HCB.out.lt
    exact ⟨K0.out.alloc _, HCB.out.alloc _, Blk.made _ _ _, World.ownsRow_nil _ _ _ _, World.ownsRow_nil _ _ _ _, .inl rfl, HB1.out.alloc HB1.out.size _, by omega, h9, Nat.lt_succ_self _, by simp⟩
  have HOQ : Hid (OpenQ l [] (fun j => leadC l j n)) := by have h9 := leadC_open l; rw [HN.out] at h9; exact h9
  clear HB1 K0 HCB
  generalize hO : w.heap.size + 2 = O at *
  generalize hBB : w1.heap.size = BB at *
  clear hO hBB
  go_loopw [15] (fun i wr => ∃ (q : Nat) (v : Value) (hs : List Int), q ≤ n ∧ i = .int .i64 q ∧ Hid (FirstL n q (fun j => leadC l j n) hs ∧ HeapL hs hs.length) ∧ Hid (ToldAt w wr O BB (BB + 1) #[.int .i64 z, .slice a n cap] ns v (.slice none 0 0) hs [])) (fun i _ => n - (intOf i).toNat)
  case atStart => exact ⟨0, _, [], Nat.zero_le _, rfl, ⟨FirstL.nil _ _, HeapL.nil⟩, T0⟩
  case round =>
    obtain ⟨q, v, hs, hq, rfl, hF, hT⟩ := hrel
    by_cases hqn : q < n
    · have hq0 : (0 : Int) ≤ (q : Int) := by omega
      have hq1 : (q : Int) < (n : Int) := by omega
      have y0 := num_cell hT.out.cnt (j := q) (by rw [HCN.out.1]; exact hqn)
      rw [HCN.out.2 q hqn] at y0
      have hlen := low_len hF.out.1.nodup hF.out.1.low
      by_cases h0 : leadC l q n = 0
      · simp only [h0] at y0
        have HP : Hid (Calls Try.prog 45 #[.iface 79 (.pointer (some ⟨BB, 0, none⟩)), .iface 3 (.int .i64 (q : Int))] wr fun e w' => e = .returned (.tuple #[]) ∧ ∃ v' hs', HeapL hs' hs'.length ∧ hs'.Perm (hs ++ [(q : Int)]) ∧ Blk w' BB #[v'] 77 ∧ w'.ownsRow (BB + 1) 3 1 v' hs'.length (hs'.flatMap encI1) ∧ Near wr v.ownBlock v' ∧ Turn2 wr w' BB v.ownBlock) := hPush_any BB (BB + 1) v hs (q : Int) wr hT.out.var hT.out.heap hT.out.s3 (by omega) hF.out.2
        go_wp2_with (first
          | (go_at_call 45; (with_reducible refine HP.out.mono ?_); rintro e w2 ⟨rfl, v2, hs2, hh2, hp2, hb2, ho2, hn2, ht2⟩; have HT2 : Hid (ToldAt w w2 O BB (BB + 1) #[.int .i64 z, .slice a n cap] ns v2 (.slice none 0 0) hs2 []) := hT.out.turn ht2 hb2 ho2 hn2; have HF2 : Hid (FirstL n (q + 1) (fun j => leadC l j n) hs2 ∧ HeapL hs2 hs2.length) := ⟨hF.out.1.put h0 hp2, hh2⟩; clear hh2 hp2 hb2 ho2 hn2 ht2))
        go_roundw
        case rel => exact ⟨q + 1, v2, hs2, by omega, by go_num, HF2, HT2⟩
        case measure => simp [intOf]; omega
      · have HF2 : Hid (FirstL n (q + 1) (fun j => leadC l j n) hs ∧ HeapL hs hs.length) := ⟨hF.out.1.skip h0, hF.out.2⟩
        simp only at y0
        generalize leadC l q n = k at *
        have hk : ¬ (k : Int) = 0 := by omega
        go_wp2
        go_roundw
        case rel => exact ⟨q + 1, v, hs, by omega, by go_num, HF2, hT⟩
        case measure => simp [intOf]; omega
    · have hnl : ¬ (q : Int) < (n : Int) := by omega
      have HW0 : Hid (WaitL n [] (fun j => leadC l j n) hs ∧ HeapL hs hs.length) := by have h9 := hF.out; rw [show q = n by omega] at h9; exact ⟨h9.1.wait, h9.2⟩
      clear hF
      go_wp2
      go_loopw [7] (fun s7 wr => ∃ (out hs ns : List Int) (op : Nat → Nat) (v vo : Value), vo = s7 ∧ Hid (StepsL l out ∧ WaitL n out op hs ∧ HeapL hs hs.length ∧ OpenQ l out op ∧ CntsL n op ns) ∧ Hid (ToldAt w wr O BB (BB + 1) #[.int .i64 z, .slice a n cap] ns v vo hs out)) (fun s7 _ => n + 1 - lenV s7)
      case atStart => exact ⟨[], hs, ns, fun j => leadC l j n, v, _, rfl, ⟨StepsL.nil l, HW0.out.1, HW0.out.2, HOQ.out, HCN.out⟩, hT⟩
      case round =>
        clear hT HW0 T0 HCN HOQ
        obtain ⟨out, hs, ns, op, v, vo, rfl, hI, hT⟩ := hrel
        obtain ⟨av, cv, hv⟩ := own_sl hT.out.heap
        subst hv
        obtain ⟨ao, co, hvo⟩ := own_sl hT.out.ord
        subst hvo
        have cB := hT.out.var.cell 0 (v := .slice av hs.length cv) rfl
        have hlen := hI.out.2.1.len
        have holen := hI.out.1.len
        rw [HN.out] at holen
        by_cases hz : hs.length = 0
        · have hz' : ((hs.length : Nat) : Int) = 0 := by omega
          have HTL : Hid (ToldL l out) := by
            have h9 := hI.out.2.1
            rw [List.eq_nil_of_length_eq_zero hz, ← HN.out] at h9
            exact ⟨hI.out.1, OpenQ.none h9 hI.out.2.2.2.1⟩
          have HNU : Hid (Nums wr (.slice ao out.length co) out) := Row.ofOwn encI1_len hT.out.ord rfl
          go_wp2_with (first
            | (go_at_call 46; (with_reducible refine (rLen_any _ _ _ _).mono ?_); rintro e w2 ⟨rfl, rfl⟩))
          go_ret
          exact ⟨_, rfl, ⟨out, HNU.out, HTL.out⟩, hT.out.below⟩
        · have hz' : (0 : Int) < ((hs.length : Nat) : Int) := by omega
          have HP : Hid (Calls Try.prog 47 #[.iface 79 (.pointer (some ⟨BB, 0, none⟩))] wr fun e w' => ∃ x, e = .returned (.iface 3 (.int .i64 x)) ∧ ∃ v' hs', HeapL hs' hs'.length ∧ (x :: hs').Perm hs ∧ (∀ y ∈ hs', x ≤ y) ∧ Blk w' BB #[v'] 77 ∧ w'.ownsRow (BB + 1) 3 1 v' hs'.length (hs'.flatMap encI1) ∧ v'.ownBlock = Value.ownBlock (.slice av hs.length cv) ∧ Turn2 wr w' BB (Value.ownBlock (.slice av hs.length cv))) := hPop_any BB (BB + 1) _ hs wr hT.out.var hT.out.heap (by omega) (by omega) hI.out.2.2.1
          go_wp2_with (first
            | (go_at_call 46; (with_reducible refine (rLen_any _ _ _ _).mono ?_); rintro e w2 ⟨rfl, rfl⟩)
            | (go_at_call 47; (with_reducible refine HP.out.mono ?_); rintro e w3 ⟨x, rfl, v3, hs3, hh3, hp3, hle3, hb3, ho3, hr3, ht3⟩; have HT3 : Hid (ToldAt w w3 O BB (BB + 1) #[.int .i64 z, .slice a n cap] ns v3 (.slice ao out.length co) hs3 out) := hT.out.turn ht3 hb3 ho3 (.inl hr3); have HQ3 := told_step HN.out hI.out.1 hI.out.2.1 hI.out.2.2.2.1 hp3 hle3; obtain ⟨q, hxq, hqn, hq9⟩ := HQ3; subst hxq; have HQ : Hid (StepsL l (out ++ [(q : Int)]) ∧ WaitL n (out ++ [(q : Int)]) op hs3 ∧ OpenA l out q 0 op ∧ (q : Int) ∉ out) := hq9; have HH3 : Hid (HeapL hs3 hs3.length) := hh3; clear hq9 hp3 hle3 hb3 ho3 hr3 ht3 hh3)
            | (at_builtin; refine wpList_append_spot encI1_len (by decide) encI1_one rfl _ _ 60 rfl (BB + 1) 3 i1 _ 8 Try.underlying60 hi1 hy0 hy1 hy2 rfl _ out.length (out.flatMap encI1) rfl (HT3.out.ord.alloc _) _ [(q : Int)] rfl (oneRow (enc := encI1) w3 (q : Int) rfl 3) (by simp; unfold maxLen; omega) (by simp; omega) (by have := HT3.out.s3; simp; omega) ?_; intro v4 w4 ho4 hg4 hn4; have HT4 : Hid (ToldAt w w4 O BB (BB + 1) #[.int .i64 z, .slice a n cap] ns v3 v4 hs3 (out ++ [(q : Int)])) := (HT3.out.alloc _).more hg4 (by rw [List.length_append, List.flatMap_append]; exact ho4) hn4; have hlv4 : lenV v4 = out.length + 1 := (by obtain ⟨a9, c9, h9⟩ := own_sl ho4; rw [h9]; rfl); clear ho4 hg4 hn4; obtain ⟨b, off, va, ha, hbl, g0, g1, gA⟩ := HC.out q hqn; subst ha; obtain ⟨a2, cap2, hva, hga⟩ := gA.get; subst hva; have HGA : Hid (∀ j, j < (el l q).2.length → ∃ b off, a2 = some ⟨b, off, none⟩ ∧ b < w.heap.size ∧ w.cell? ⟨b, off + j * 4, none⟩ = some (.int .i64 (el (el l q).2 j).1) ∧ w.cell? ⟨b, off + j * 4 + 1, none⟩ = some (.int .i64 (el (el l q).2 j).2.1) ∧ w.cell? ⟨b, off + j * 4 + 2, none⟩ = some (.int .i64 (el (el l q).2 j).2.2.1) ∧ w.cell? ⟨b, off + j * 4 + 3, none⟩ = some (.int .i64 (el (el l q).2 j).2.2.2)) := hga; clear hga gA g0; have g1 := (HT4.out.below.cell (p := ⟨b, off + q * 2 + 1, none⟩) hbl).trans g1; have c1 := HT4.out.box.cell 1 (v := .slice (some ⟨b, off, none⟩) n cap) rfl; have hq0 : (0 : Int) ≤ (q : Int) := (by omega); have hq1 : (q : Int) < (n : Int) := (by omega)))
          have HAL : Hid (∀ a ∈ (el l q).2, ∃ t : Nat, a.2.2.2 = (t : Int) ∧ t < n) := fun a ha => by
            have h9 := List.all_eq_true.1 (HA4.out q hqn) a ha
            simp only [arcB, inB, Bool.and_eq_true, decide_eq_true_eq] at h9
            exact ⟨a.2.2.2.toNat, by omega, by omega⟩
          have HST : Hid (∀ (c t : Nat) (op : Nat → Nat), c < (el l q).2.length → (el (el l q).2 c).2.2.2 = (t : Int) → OpenA l out q c op → op t ≠ 0 ∧ op t ≤ 400 ∧ OpenA l out q (c + 1) (fun j => if j = t then op t - 1 else op j)) := fun c t op hc ht ho => by
            have h9 := ho.step hc ht
            exact ⟨h9.1, Nat.le_trans (ho.le HQ.out.2.2.2 (by rw [HN.out]; exact hqn) t) HSZ.out, h9.2⟩
          have HDN : Hid (∀ (c : Nat) (op : Nat → Nat), (el l q).2.length ≤ c → OpenA l out q c op → OpenQ l (out ++ [(q : Int)]) op) := fun c op hc ho => ho.done hc
          have HS2 : Hid (StepsL l (out ++ [(q : Int)])) := HQ.out.1
          have HOA : Hid (WaitL n (out ++ [(q : Int)]) op hs3 ∧ HeapL hs3 hs3.length ∧ OpenA l out q 0 op ∧ CntsL n op ns) := ⟨HQ.out.2.1, HH3.out, HQ.out.2.2.1, hI.out.2.2.2.2⟩
          obtain ⟨L, hL⟩ : ∃ L, (el l q).2.length = L := ⟨_, rfl⟩
          have hL4 : L ≤ 400 := by have h8 := arcs_len (l := l) (j := q) (by rw [HN.out]; exact hqn); have h9 := HSZ.out; omega
          rw [hL] at g1 HGA HST HDN
          rw [hL]
          have HLL : Hid ((el l q).2.length = L) := hL
          clear hL HQ HH3 HP hT HT3 cB hI c1 HM HR
          generalize (el l q).2 = ar at *
          go_loopw [44] (fun i wr => ∃ (c : Nat) (hs ns : List Int) (op : Nat → Nat) (v : Value), c ≤ L ∧ i = .int .i64 (c : Int) ∧ Hid (WaitL n (out ++ [(q : Int)]) op hs ∧ HeapL hs hs.length ∧ OpenA l out q c op ∧ CntsL n op ns) ∧ Hid (ToldAt w wr O BB (BB + 1) #[.int .i64 z, .slice (some ⟨b, off, none⟩) n cap] ns v v4 hs (out ++ [(q : Int)]))) (fun i _ => L - (intOf i).toNat)
          case atStart => exact ⟨0, hs3, ns, op, v3, Nat.zero_le _, rfl, HOA, HT4⟩
          case round =>
            clear HT4 HOA
            obtain ⟨c, hs, ns, op, v, hc, rfl, hI, hT⟩ := hrel
            by_cases hcL : c < L
            · obtain ⟨b3, off3, rfl, hb3l, e0, e1, e2, e3⟩ := HGA.out c hcL
              have e0 := (hT.out.below.cell (p := ⟨b3, off3 + c * 4, none⟩) hb3l).trans e0
              have e1 := (hT.out.below.cell (p := ⟨b3, off3 + c * 4 + 1, none⟩) hb3l).trans e1
              have e2 := (hT.out.below.cell (p := ⟨b3, off3 + c * 4 + 2, none⟩) hb3l).trans e2
              have e3 := (hT.out.below.cell (p := ⟨b3, off3 + c * 4 + 3, none⟩) hb3l).trans e3
              obtain ⟨t, ht, htn⟩ := HAL.out (el ar c) (el_mem (by rw [HLL.out]; exact hcL))
              obtain ⟨hne, hk4, hA2⟩ := HST.out c t op hcL ht hI.out.2.2.1
              have HA2 : Hid (OpenA l out q (c + 1) (fun j => if j = t then op t - 1 else op j)) := hA2
              clear hA2
              rw [ht] at e3
              generalize (el ar c).1 = x0 at *
              generalize (el ar c).2.1 = x1 at *
              generalize (el ar c).2.2.1 = x2 at *
              clear ht
              obtain ⟨k, hk⟩ : ∃ k, op t = k + 1 := ⟨op t - 1, by omega⟩
              have hnt := hI.out.2.2.2.2 t htn
              rw [hk] at hnt
              have y0 := num_cell (hT.out.cnt) (j := t) (by rw [hI.out.2.2.2.1]; exact htn)
              rw [hnt] at y0
              have y1 := hT.out.cnt.fz t
              have hxl : O < wr.heap.size := hT.out.cnt.lt
              have HC2 : Hid (CntsL n (fun j => if j = t then op t - 1 else op j) (ns.set t (k : Int))) := (hI.out.2.2.2.set htn (op t - 1) (x := (k : Int)) (by omega))
              have HT2 : Hid (ToldAt w ((wr.setCell ⟨O, t, none⟩ (.int .i64 (k : Int))).alloc (.cells #[.int .i64 x0, .int .i64 x1, .int .i64 x2, .int .i64 (t : Int)] 50)) O BB (BB + 1) #[.int .i64 z, .slice (some ⟨b, off, none⟩) n cap] (ns.set t (k : Int)) v v4 hs (out ++ [(q : Int)])) := (hT.out.put t (k : Int)).alloc _
              have hlen := hI.out.1.len
              have hj0 : (0 : Int) ≤ (c : Int) := by omega
              have hj1 : (c : Int) < (L : Int) := by omega
              have ht0 : (0 : Int) ≤ (t : Int) := by omega
              have ht1 : (t : Int) < (n : Int) := by omega
              have kw : IntKind.i64.wrap (k : Int) = (k : Int) := wrapI (by omega) (by omega)
              by_cases h0 : k = 0
              · subst h0
                have HP : Hid (Calls Try.prog 45 #[.iface 79 (.pointer (some ⟨BB, 0, none⟩)), .iface 3 (.int .i64 (t : Int))] ((wr.setCell ⟨O, t, none⟩ (.int .i64 0)).alloc (.cells #[.int .i64 x0, .int .i64 x1, .int .i64 x2, .int .i64 (t : Int)] 50)) fun e w' => e = .returned (.tuple #[]) ∧ ∃ v' hs', HeapL hs' hs'.length ∧ hs'.Perm (hs ++ [(t : Int)]) ∧ Blk w' BB #[v'] 77 ∧ w'.ownsRow (BB + 1) 3 1 v' hs'.length (hs'.flatMap encI1) ∧ Near ((wr.setCell ⟨O, t, none⟩ (.int .i64 0)).alloc (.cells #[.int .i64 x0, .int .i64 x1, .int .i64 x2, .int .i64 (t : Int)] 50)) v.ownBlock v' ∧ Turn2 ((wr.setCell ⟨O, t, none⟩ (.int .i64 0)).alloc (.cells #[.int .i64 x0, .int .i64 x1, .int .i64 x2, .int .i64 (t : Int)] 50)) w' BB v.ownBlock) := hPush_any BB (BB + 1) v hs (t : Int) _ HT2.out.var HT2.out.heap HT2.out.s3 (by omega) hI.out.2.1
                clear hT
                go_wp2_with (first
                  | (go_at_call 45; (with_reducible refine HP.out.mono ?_); rintro e w5 ⟨rfl, v5, hs5, hh5, hp5, hb5, ho5, hn5, ht5⟩; have HT5 : Hid (ToldAt w w5 O BB (BB + 1) #[.int .i64 z, .slice (some ⟨b, off, none⟩) n cap] (ns.set t ((0 : Nat) : Int)) v5 v4 hs5 (out ++ [(q : Int)])) := HT2.out.turn ht5 hb5 ho5 hn5; have HI5 : Hid (WaitL n (out ++ [(q : Int)]) (fun j => if j = t then op t - 1 else op j) hs5 ∧ HeapL hs5 hs5.length ∧ OpenA l out q (c + 1) (fun j => if j = t then op t - 1 else op j) ∧ CntsL n (fun j => if j = t then op t - 1 else op j) (ns.set t ((0 : Nat) : Int))) := ⟨hI.out.1.put htn (by simp [hk]) hne (fun j hj => by simp [hj]) hp5, hh5, HA2.out, HC2.out⟩; clear hh5 hp5 hb5 ho5 hn5 ht5))
                go_roundw
                case rel => exact ⟨c + 1, hs5, _, _, v5, by omega, by go_num, HI5, HT5⟩
                case measure => simp [intOf]; omega
              · have hk0 : ¬ (k : Int) = 0 := by omega
                have HI5 : Hid (WaitL n (out ++ [(q : Int)]) (fun j => if j = t then op t - 1 else op j) hs ∧ HeapL hs hs.length ∧ OpenA l out q (c + 1) (fun j => if j = t then op t - 1 else op j) ∧ CntsL n (fun j => if j = t then op t - 1 else op j) (ns.set t (k : Int))) := ⟨hI.out.1.less htn (by simp [hk]; omega) hne (fun j hj => by simp [hj]), hI.out.2.1, HA2.out, HC2.out⟩
                clear hT
                go_wp2
                go_roundw
                case rel => exact ⟨c + 1, hs, _, _, v, by omega, by go_num, HI5, HT2⟩
                case measure => simp [intOf]; omega
            · have hnl : ¬ (c : Int) < (L : Int) := by omega
              have HI5 : Hid (StepsL l (out ++ [(q : Int)]) ∧ WaitL n (out ++ [(q : Int)]) op hs ∧ HeapL hs hs.length ∧ OpenQ l (out ++ [(q : Int)]) op ∧ CntsL n op ns) := ⟨HS2.out, hI.out.1, hI.out.2.1, HDN.out c op (by omega) hI.out.2.2.1, hI.out.2.2.2⟩
              go_wp2
              go_roundw
              case rel => exact ⟨out ++ [(q : Int)], hs, ns, op, v, _, rfl, HI5, hT⟩
              case measure => rw [hlv4]; simp only [lenV]; omega
end Go.Proofs.Ytfffelgmgghldab.Wt
