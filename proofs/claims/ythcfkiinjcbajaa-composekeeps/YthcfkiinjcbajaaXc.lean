/- The keeping statements' two machines together: the walk. -/
import Derived.Test.YthcfkiinjcbajaaXb
namespace Go.Proofs.Ythcfkiinjcbajaa.Wt
open Go.ChangeShapes Go.WideShapes Go.ChangeAt Go.RowKit
open Go.Proofs.Ythcfkiinjcbajaa.Pl
set_option linter.unusedVariables false
set_option linter.unusedSimpArgs false
set_option maxRecDepth 100000 in
set_option maxHeartbeats 6400000 in
theorem together_any (va vb vx vz : Value) (ma mb : Mc) (x z : List Int) (w : World) (ha : Mach w va ma) (hb : Mach w vb mb) (nx : Nums w vx x) (nz : Nums w vz z) (fa : faultM ma = 0) (fb : faultM mb = 0) (la : ma.2.length ≤ 4) (lb : mb.2.length ≤ 4) (lx : x.length ≤ 2) (lz : z.length ≤ 2) (pa : 0 ≤ ma.1) (pb : 0 ≤ mb.1)
    (wa : ∀ p, ∀ a ∈ (el ma.2 p).2, a.2.2.1 ≤ 10) (wb : ∀ p, ∀ a ∈ (el mb.2 p).2, a.2.2.1 ≤ 10) (ga : ∀ p, p < ma.2.length → (el ma.2 p).1 ≠ 1000000001 → (el ma.2 p).1 ≤ 1000) (gb : ∀ p, p < mb.2.length → (el mb.2 p).1 ≠ 1000000001 → (el mb.2 p).1 ≤ 1000) :
    Calls Try.prog 19 #[va, vb, vx, vz] w fun e w' => ∃ n : Int, e = .returned (.int .i64 n) ∧ TogA ma mb x z n ∧ Below w.heap.size w w' := by
  have HFA : Hid (∀ p, p < ma.2.length → 0 ≤ (el ma.2 p).1 ∧ (el ma.2 p).1 ≤ 1000000001 ∧ ((el ma.2 p).1 ≠ 1000000001 → (el ma.2 p).1 ≤ 1000)) := fun p hp => by
    have h1 := (right_states fa p hp).1
    simp [finB, inB] at h1
    exact ⟨by omega, by omega, ga p hp⟩
  have HFB : Hid (∀ p, p < mb.2.length → 0 ≤ (el mb.2 p).1 ∧ (el mb.2 p).1 ≤ 1000000001 ∧ ((el mb.2 p).1 ≠ 1000000001 → (el mb.2 p).1 ≤ 1000)) := fun p hp => by
    have h1 := (right_states fb p hp).1
    simp [finB, inB] at h1
    exact ⟨by omega, by omega, gb p hp⟩
  have qa := right_posA fa
  have qb := right_posA fb
  have HLA : Hid (∀ p, p < ma.2.length → (el ma.2 p).2.length ≤ 400 ∧ ∀ a ∈ (el ma.2 p).2, 0 ≤ a.2.2.1 ∧ a.2.2.1 ≤ 1000000000) := fun p hp => ⟨(right_states fa p hp).2.1, fun a h => ⟨(qa p a h).2.2, by have := wa p a h; omega⟩⟩
  have HLB : Hid (∀ p, p < mb.2.length → (el mb.2 p).2.length ≤ 400 ∧ ∀ a ∈ (el mb.2 p).2, 0 ≤ a.2.2.1 ∧ a.2.2.1 ≤ 1000000000) := fun p hp => ⟨(right_states fb p hp).2.1, fun a h => ⟨(qb p a h).2.2, by have := wb p a h; omega⟩⟩
  have HSD : Hid (∀ p q i j, p < ma.2.length → q < mb.2.length → i ≤ x.length → j ≤ z.length → ∀ d ∈ sdL (el ma.2 p).2 (el mb.2 q).2 (p, q, i, j) x z, ∃ p' q' i' j' : Nat, d.1 = (p' : Int) ∧ d.2.1 = (q' : Int) ∧ d.2.2.1 = (i' : Int) ∧ d.2.2.2.1 = (j' : Int) ∧ p' < ma.2.length ∧ q' < mb.2.length ∧ i' ≤ x.length ∧ j' ≤ z.length ∧ 0 ≤ d.2.2.2.2 ∧ d.2.2.2.2 ≤ 20) := fun p q i j h1 h2 h3 h4 d hd => by
    obtain ⟨p', q', i', j', e1, e2, e3, e4, e5, e6, e7, e8, e9⟩ := sd_in fa fb h1 h2 h3 h4 hd
    exact ⟨p', q', i', j', e1, e2, e3, e4, e5, e6, e7, e8, e9, sd_low wa wb (fun p a h => (qa p a h).2.2) (fun p a h => (qb p a h).2.2) hd⟩
  obtain ⟨za, hza⟩ : ∃ za : Nat, ma.1 = (za : Int) := ⟨ma.1.toNat, by omega⟩
  obtain ⟨zb, hzb⟩ : ∃ zb : Nat, mb.1 = (zb : Int) := ⟨mb.1.toNat, by omega⟩
  have hza1 : za < ma.2.length := by have := (right_parts fa).1.2; omega
  have hzb1 : zb < mb.2.length := by have := (right_parts fb).1.2; omega
  have HT0 : Hid (TabT ma.2 mb.2 ma.1.toNat mb.1.toNat x z ((List.replicate (ma.2.length * mb.2.length * (x.length + 1) * (z.length + 1)) (1000000001 : Int)).set (ixS mb.2.length x.length z.length za zb 0 0) 0)) := by
    rw [show ma.1.toNat = za by omega, show mb.1.toNat = zb by omega]
    exact tabT_start hza1 hzb1
  have HIL : Hid (∀ p q i j, p < ma.2.length → q < mb.2.length → i ≤ x.length → j ≤ z.length → ixS mb.2.length x.length z.length p q i j < ma.2.length * mb.2.length * (x.length + 1) * (z.length + 1)) := fun p q i j => ixS_lt
  have HF1 := hidP fa
  have HF2 := hidP fb
  obtain ⟨vsa, rfl, hSa⟩ := ha
  obtain ⟨aa, ca, rfl, hca⟩ := hSa.get
  obtain ⟨vsb, rfl, hSb⟩ := hb
  obtain ⟨ab, cb, rfl, hcb⟩ := hSb.get
  have HCA := hidP hca
  have HCB := hidP hcb
  obtain ⟨ax, cx, rfl⟩ := Row.sl nx
  obtain ⟨az, cz, rfl⟩ := Row.sl nz
  have HNX := hidP nx
  have HNZ := hidP nz
  rw [hza, hzb]
  have HIX : Hid (∀ p q i j, ixT mb x z p q i j = ixS mb.2.length x.length z.length p q i j) := fun p q i j => rfl
  have HFI : Hid (∀ cs best S0 K, InvT ma mb x z cs best false S0 K → ma.2.length * mb.2.length * (x.length + 1) * (z.length + 1) ≤ K → TogA ma mb x z best) := fun cs best S0 K h hK => h.fin HF1.out HF2.out hK (fun p hp => (HFA.out p hp).1) (fun p hp => (HFB.out p hp).1)
  have HTL : Hid (∀ cs, TabT ma.2 mb.2 ma.1.toNat mb.1.toNat x z cs → cs.length = ma.2.length * mb.2.length * (x.length + 1) * (z.length + 1)) := fun cs h => h.len
  clear hSa hSb hca hcb nx nz wa wb ga gb qa qb pa pb fa fb hza hzb
  generalize hna : ma.2.length = na at *
  generalize hnb : mb.2.length = nb at *
  generalize hX : x.length = X at *
  generalize hZ : z.length = Z at *
  have HNA := hidP hna
  have HNB := hidP hnb
  have HXE := hidP hX
  have HZE := hidP hZ
  clear hna hnb hX hZ
  have b1 : na * nb ≤ 4 * 4 := Nat.mul_le_mul la lb
  have b2 : na * nb * (X + 1) ≤ 16 * 3 := Nat.mul_le_mul b1 (by omega)
  have b3 : na * nb * (X + 1) * (Z + 1) ≤ 48 * 3 := Nat.mul_le_mul b2 (by omega)
  have c1 : ((na * nb : Nat) : Int) = (na : Int) * (nb : Int) := by simp
  have c2 : ((na * nb * (X + 1) : Nat) : Int) = (na : Int) * (nb : Int) * ((X : Int) + 1) := by simp
  have c3 : ((na * nb * (X + 1) * (Z + 1) : Nat) : Int) = (na : Int) * (nb : Int) * ((X : Int) + 1) * ((Z : Int) + 1) := by simp
  obtain ⟨N, hN⟩ : ∃ N, na * nb * (X + 1) * (Z + 1) = N := ⟨_, rfl⟩
  rw [hN] at b3 c3 HT0 HIL HFI HTL
  generalize h1 : (na : Int) * (nb : Int) = m1 at *
  generalize h2 : m1 * ((X : Int) + 1) = m2 at *
  have h3 := c3.symm
  have w1 : IntKind.i64.wrap m1 = m1 := wrapI (by omega) (by omega)
  have w2 : IntKind.i64.wrap ((X : Int) + 1) = (X : Int) + 1 := wrapI (by omega) (by omega)
  have w3 : IntKind.i64.wrap m2 = m2 := wrapI (by omega) (by omega)
  have w4 : IntKind.i64.wrap ((Z : Int) + 1) = (Z : Int) + 1 := wrapI (by omega) (by omega)
  have w5 : IntKind.i64.wrap (N : Int) = (N : Int) := wrapI (by omega) (by omega)
  have HNN := hidP hN
  clear c1 c2 c3 b1 b2 hN
  have hmk := run_nums N (by omega)
  go_enter Try.func19, Try.ntmps19
  go_wp2
  clear hmk w1 w3 w5 h1 h2 h3
  go_loopw [42] (fun i wr => ∃ (k : Nat) (cs : List Int), k ≤ N ∧ i = .int .i64 k ∧ Hid (cs.length = N ∧ ∀ j, j < k → el cs j = 1000000001) ∧ Hid (TogW w #[.int .i64 (za : Int), .slice aa na ca] #[.int .i64 (zb : Int), .slice ab nb cb] (.slice ax X cx) (.slice az Z cz) nb wr cs)) (fun i _ => N - (intOf i).toNat)
  case atStart => exact ⟨0, List.replicate N 0, Nat.zero_le _, rfl, ⟨by simp, fun j hj => absurd hj (by omega)⟩, by have h9 := TogW.made w #[.int .i64 (za : Int), .slice aa na ca] #[.int .i64 (zb : Int), .slice ab nb cb] (.slice ax X cx) (.slice az Z cz) nb N; simp only [List.map_replicate, List.toArray_replicate] at h9 ⊢; exact h9⟩
  case round =>
    obtain ⟨k, cs, hk, rfl, hcs, hT⟩ := hrel
    by_cases hkN : k < N
    · have hk1 : (k : Int) < (N : Int) := by omega
      have hk0 : (0 : Int) ≤ (k : Int) := by omega
      have c0 := num_cell hT.out.t (j := k) (by rw [hcs.out.1]; exact hkN)
      have f0 := hT.out.t.fz k
      go_wp2
      go_roundw
      case rel => exact ⟨k + 1, cs.set k 1000000001, by omega, by go_num, ⟨by rw [List.length_set]; exact hcs.out.1, fun j hj => by rw [el_setN (by rw [hcs.out.1]; exact hkN)]; split; rfl; exact hcs.out.2 j (by omega)⟩, hT.out.set k _⟩
      case measure => simp [intOf]; omega
    · have hk1 : ¬ (k : Int) < (N : Int) := by omega
      obtain rfl : k = N := by omega
      have hrep : cs = List.replicate k 1000000001 := el_ext (by rw [hcs.out.1]; simp) fun j hj => by
        rw [hcs.out.1] at hj
        rw [hcs.out.2 j hj, el_get (by simpa using hj)]
        simp
      subst hrep
      clear hcs
      have a0 := hT.out.a.cell 0 (v := .int .i64 (za : Int)) rfl
      have d0 := hT.out.b.cell 0 (v := .int .i64 (zb : Int)) rfl
      have hil := HIL.out za zb 0 0 hza1 hzb1 (Nat.zero_le _) (Nat.zero_le _)
      obtain ⟨ix, hix⟩ : ∃ ix, ixS nb X Z za zb 0 0 = ix := ⟨_, rfl⟩
      have HI0 := hidP hix
      rw [hix] at HT0 hil
      clear hix
      have i0 : (0 : Int) ≤ (ix : Int) := by omega
      have i1 : (ix : Int) < (k : Int) := by omega
      go_wp2_with (first
        | (go_at_call 38; (with_reducible refine (at_ix0 za zb ix hT.out (by omega) (by omega) (by omega) (by omega) (by omega) HI0.out).mono ?_); rintro e w5 ⟨rfl, hb5⟩; have HT5 := hidP (hT.out.later hb5); have t5 := num_cell HT5.out.t (j := ix) (by simpa using hil); have f5 := HT5.out.t.fz ix; clear hb5))
      have HTS := hidP (HT5.out.set ix 0)
      generalize hcs0 : (List.replicate k (1000000001 : Int)).set ix 0 = cs0 at *
      have HLW : Hid (LowT cs0) := by rw [← hcs0]; exact lowT_start
      clear hcs0 t5 f5 HT5 hT a0 d0 i0 i1 hkN hk1 hil
      go_loopw [13, 14] (fun s13 s14 wr => ∃ (best : Int) (ag : Bool) (cs : List Int), s13 = .int .i64 best ∧ s14 = .bool ag ∧ Hid (TogW w #[.int .i64 (za : Int), .slice aa na ca] #[.int .i64 (zb : Int), .slice ab nb cb] (.slice ax X cx) (.slice az Z cz) nb wr cs) ∧ Hid (TabT ma.2 mb.2 ma.1.toNat mb.1.toNat x z cs) ∧ Hid (LowT cs) ∧ Hid ((best = 1000000001 ∨ ∃ c : Nat, TogP ma mb x z c ∧ best = (c : Int)) ∧ 0 ≤ best ∧ best ≤ 1000000001) ∧ Hid (ag = false → TogA ma mb x z best)) (fun _ s14 wr => 2 * tabSumT wr (w.heap.size + 5) + boolNT s14)
      case atStart => exact ⟨1000000001, true, cs0, rfl, rfl, HTS, HT0, HLW, ⟨.inl rfl, by omega, by omega⟩, fun h => by cases h⟩
      case round =>
        obtain ⟨best, ag, cs, rfl, rfl, hT, hTb, hLw, hbd, hfin⟩ := hrel
        cases ag with
        | false =>
          have HA := hidP (hfin.out rfl)
          have HB := hidP hT.out.bel
          clear hfin
          go_wp2
          go_ret
          exact ⟨best, rfl, HA.out, HB.out⟩
        | true =>
          have hms : tabSumT wr (w.heap.size + 5) = sumT cs := tabSumT_of hT.out.t
          have HMS := hidP hms
          have HIN := hidP (InvT.start hTb.out hbd.out.1 hbd.out.2)
          obtain ⟨S0, hS0⟩ : ∃ S0, sumT cs = S0 := ⟨_, rfl⟩
          rw [hS0] at HIN HMS
          have HI3 : Hid (InvT ma mb x z cs best false S0 (ixS nb X Z 0 0 0 0)) := by
            have e : ixS nb X Z 0 0 0 0 = 0 := by simp [ixS]
            rw [e]
            exact HIN.out
          clear hms hS0 hfin hbd hTb HIN
          obtain ⟨w1, hw1⟩ : ∃ w1, w1 = wr := ⟨_, rfl⟩
          subst hw1
          go_wp2
          go_loopw [13, 14, 15] (fun s13 s14 s15 wr => ∃ (best : Int) (ag : Bool) (cs : List Int) (p : Nat), s13 = .int .i64 best ∧ s14 = .bool ag ∧ s15 = .int .i64 p ∧ p ≤ na ∧ Hid (TogW w #[.int .i64 (za : Int), .slice aa na ca] #[.int .i64 (zb : Int), .slice ab nb cb] (.slice ax X cx) (.slice az Z cz) nb wr cs) ∧ Hid (InvT ma mb x z cs best ag S0 (ixS nb X Z p 0 0 0)) ∧ Hid (LowT cs)) (fun _ _ s15 _ => na - (intOf s15).toNat)
          case atStart => exact ⟨best, false, cs, 0, rfl, rfl, rfl, Nat.zero_le _, hT, HI3, hLw⟩
          case round =>
            clear hT HI3 hLw
            obtain ⟨best, ag, cs, p, rfl, rfl, rfl, hp, hT, hI, hLw⟩ := hrel
            have a1 := hT.out.a.cell 1 (v := .slice aa na ca) rfl
            by_cases hpn : p < na
            · have p1 : (p : Int) < (na : Int) := by omega
              have p0 : (0 : Int) ≤ (p : Int) := by omega
              go_wp2
              clear a1
              go_loopw [13, 14, 16] (fun s13 s14 s16 wr => ∃ (best : Int) (ag : Bool) (cs : List Int) (q : Nat), s13 = .int .i64 best ∧ s14 = .bool ag ∧ s16 = .int .i64 q ∧ q ≤ nb ∧ Hid (TogW w #[.int .i64 (za : Int), .slice aa na ca] #[.int .i64 (zb : Int), .slice ab nb cb] (.slice ax X cx) (.slice az Z cz) nb wr cs) ∧ Hid (InvT ma mb x z cs best ag S0 (ixS nb X Z p q 0 0)) ∧ Hid (LowT cs)) (fun _ _ s16 _ => nb - (intOf s16).toNat)
              case atStart => exact ⟨best, ag, cs, 0, rfl, rfl, rfl, Nat.zero_le _, hT, hI, hLw⟩
              case round =>
                clear hT hI hLw
                obtain ⟨best, ag, cs, q, rfl, rfl, rfl, hq, hT, hI, hLw⟩ := hrel
                have n0 := hT.out.c.cell 0 (v := .int .i64 (nb : Int)) rfl
                by_cases hqn : q < nb
                · have q1 : (q : Int) < (nb : Int) := by omega
                  have q0 : (0 : Int) ≤ (q : Int) := by omega
                  go_wp2
                  clear n0
                  go_loopw [13, 14, 17] (fun s13 s14 s17 wr => ∃ (best : Int) (ag : Bool) (cs : List Int) (i : Nat), s13 = .int .i64 best ∧ s14 = .bool ag ∧ s17 = .int .i64 i ∧ i ≤ X + 1 ∧ Hid (TogW w #[.int .i64 (za : Int), .slice aa na ca] #[.int .i64 (zb : Int), .slice ab nb cb] (.slice ax X cx) (.slice az Z cz) nb wr cs) ∧ Hid (InvT ma mb x z cs best ag S0 (ixS nb X Z p q i 0)) ∧ Hid (LowT cs)) (fun _ _ s17 _ => X + 1 - (intOf s17).toNat)
                  case atStart => exact ⟨best, ag, cs, 0, rfl, rfl, rfl, Nat.zero_le _, hT, hI, hLw⟩
                  case round =>
                    clear hT hI hLw
                    obtain ⟨best, ag, cs, i, rfl, rfl, rfl, hi, hT, hI, hLw⟩ := hrel
                    have x0 := hT.out.x.cell 0 (v := .slice ax X cx) rfl
                    by_cases hiX : i ≤ X
                    · have i1 : (i : Int) ≤ (X : Int) := by omega
                      have i0 : (0 : Int) ≤ (i : Int) := by omega
                      go_wp2
                      clear x0
                      go_loopw [13, 14, 18] (fun s13 s14 s18 wr => ∃ (best : Int) (ag : Bool) (cs : List Int) (j : Nat), s13 = .int .i64 best ∧ s14 = .bool ag ∧ s18 = .int .i64 j ∧ j ≤ Z + 1 ∧ Hid (TogW w #[.int .i64 (za : Int), .slice aa na ca] #[.int .i64 (zb : Int), .slice ab nb cb] (.slice ax X cx) (.slice az Z cz) nb wr cs) ∧ Hid (InvT ma mb x z cs best ag S0 (ixS nb X Z p q i j)) ∧ Hid (LowT cs)) (fun _ _ s18 _ => Z + 1 - (intOf s18).toNat)
                      case atStart => exact ⟨best, ag, cs, 0, rfl, rfl, rfl, Nat.zero_le _, hT, hI, hLw⟩
                      case round =>
                        clear hT hI hLw
                        obtain ⟨best, ag, cs, j, rfl, rfl, rfl, hj, hT, hI, hLw⟩ := hrel
                        have z0 := hT.out.z.cell 0 (v := .slice az Z cz) rfl
                        by_cases hjZ : j ≤ Z
                        · have j1 : (j : Int) ≤ (Z : Int) := by omega
                          have j0 : (0 : Int) ≤ (j : Int) := by omega
                          have hil := HIL.out p q i j hpn hqn hiX hjZ
                          have HIT := hidP (HIX.out p q i j)
                          have hlen := HTL.out cs hI.out.tab
                          obtain ⟨ix, hix⟩ : ∃ ix, ixS nb X Z p q i j = ix := ⟨_, rfl⟩
                          have HI0 := hidP hix
                          have hrng := hI.out.tab.rng ix (by rw [hlen, ← hix]; exact hil)
                          have HLWc := hidP (fun h => hLw.out.le (N := 1000) (by rw [hlen]; omega) (by omega) (k := ix) (by rw [hlen, ← hix]; exact hil) h)
                          rw [hix] at hI hil HIT
                          have t0 := num_cell hT.out.t (j := ix) (by rw [hlen]; exact hil)
                          obtain ⟨c, hc⟩ : ∃ c, el cs ix = c := ⟨_, rfl⟩
                          have HC := hidP hc
                          have HLEN := hidP hlen
                          rw [hc] at t0 hrng HLWc
                          have m0 : (0 : Int) ≤ (ix : Int) := by omega
                          have m1 : (ix : Int) < (k : Int) := by omega
                          clear hix hc hlen
                          by_cases hcI : c = 1000000001
                          · have HIN : Hid (InvT ma mb x z cs best ag S0 (ixS nb X Z p q i (j + 1))) := by
                              rw [ixS_s, HI0.out]
                              have eI : el cs (ixT mb x z p q i j) = 1000000001 := by rw [HIT.out, HC.out, hcI]
                              refine hI.out.next (by rw [HNA.out]; exact hpn) (by rw [HNB.out]; exact hqn) (by rw [HXE.out]; exact hiX) (by rw [HZE.out]; exact hjZ) HIT.out (fun _ => ⟨fun hlt => ?_, fun _ _ hlt => ?_⟩)
                              · have e9 : el cs (ixS mb.2.length x.length z.length p q i j) = 1000000001 := eI
                                rw [e9] at hlt
                                omega
                              · rw [eI] at hlt
                                omega
                            subst hcI
                            clear hI
                            go_wp2_with (first
                              | (go_at_call 38; (with_reducible refine (at_ix p q i j ix hT.out (by omega) (by omega) (by omega) (by omega) (by omega) (by omega) (by omega) HI0.out).mono ?_); rintro e w5 ⟨rfl, hb5⟩; have HT5 := hidP (hT.out.later hb5); have t5 := (hb5.cell (p := ⟨w.heap.size + 5, ix, none⟩) hT.out.t.lt).trans t0; clear hb5))
                            go_roundw
                            case rel => exact ⟨best, ag, cs, j + 1, rfl, rfl, by go_num, by omega, HT5, HIN, hLw⟩
                            case measure => simp [intOf]; omega
                          · have hcl : c < 1000000001 := by omega
                            have hcb := HLWc.out hcl
                            have hce : (c == 1000000001) = false := by simpa using hcI
                            obtain ⟨ba, oa, ua, haA, hbaA, fa0, fa1, hUA⟩ := HCA.out p hpn
                            obtain ⟨bb, ob, ub, haB, hbbB, fb0, fb1, hUB⟩ := HCB.out q hqn
                            subst haA
                            subst haB
                            have hFA := HFA.out p hpn
                            have hFB := HFB.out q hqn
                            have HCT : Hid (InvT ma mb x z cs best ag S0 ix ∧ (i = X → j = Z → InvT ma mb x z cs (if bothT c (el ma.2 p).1 (el mb.2 q).1 < best then bothT c (el ma.2 p).1 (el mb.2 q).1 else best) ag S0 ix ∧ EndS ma mb x z cs (if bothT c (el ma.2 p).1 (el mb.2 q).1 < best then bothT c (el ma.2 p).1 (el mb.2 q).1 else best) p q i j)) := by
                              refine ⟨hI.out, fun e1 e2 => ?_⟩
                              have eI : el cs (ixT mb x z p q x.length z.length) = c := by rw [HXE.out, HZE.out, ← e1, ← e2, HIT.out, HC.out]
                              have h9 := hI.out.count HF1.out HF2.out (by rw [HNA.out]; exact hpn) (by rw [HNB.out]; exact hqn) (by rw [eI]; exact hcl) hFA hFB (by rw [eI]; omega)
                              rw [eI, HXE.out, HZE.out, ← e1, ← e2] at h9
                              exact h9
                            have hbd := hI.out.bd
                            obtain ⟨FA, hFAe⟩ : ∃ FA, (el ma.2 p).1 = FA := ⟨_, rfl⟩
                            obtain ⟨FB, hFBe⟩ : ∃ FB, (el mb.2 q).1 = FB := ⟨_, rfl⟩
                            rw [hFAe] at fa0 hFA HCT
                            rw [hFBe] at fb0 hFB HCT
                            clear hFAe hFBe hI
                            go_upto_region 28 with (first
                              | (go_at_call 38; (with_reducible refine (at_ix p q i j ix hT.out (by omega) (by omega) (by omega) (by omega) (by omega) (by omega) (by omega) HI0.out).mono ?_); rintro e w5 ⟨rfl, hb5⟩; have HT5 := hidP (hT.out.later hb5); have t5 := (hb5.cell (p := ⟨w.heap.size + 5, ix, none⟩) hT.out.t.lt).trans t0; clear hb5))
                            have hx5 := HT5.out.x.cell 0 (v := .slice ax X cx) rfl
                            have hz5 := HT5.out.z.cell 0 (v := .slice az Z cz) rfl
                            go_cut [104] (fun t wx => t = .bool (decide (i = X ∧ j = Z)) ∧ wx = w5)
                            case first =>
                              by_cases e1 : i = X
                              · have e1' : ((i : Int) == (X : Int)) = true := beq_iff_eq.2 (by rw [e1])
                                by_cases e2 : j = Z
                                · have e2' : ((j : Int) == (Z : Int)) = true := beq_iff_eq.2 (by rw [e2])
                                  go_wp2
                                  go_meet
                                  case rel => exact ⟨by simp [e1, e2], rfl⟩
                                · have e2' : ((j : Int) == (Z : Int)) = false := by simp; omega
                                  go_wp2
                                  go_meet
                                  case rel => exact ⟨by simp [e1, e2], rfl⟩
                              · have e1' : ((i : Int) == (X : Int)) = false := by simp; omega
                                go_wp2
                                go_meet
                                case rel => exact ⟨by simp [e1], rfl⟩
                            case rest =>
                              obtain ⟨hu, hwc⟩ := hcut
                              subst hwc
                              obtain ⟨eb, heb⟩ : ∃ eb, decide (i = X ∧ j = Z) = eb := ⟨_, rfl⟩
                              rw [heb] at hu
                              subst hu
                              have HEB := hidP heb
                              have HBL := hidP HT5.out.bel
                              clear heb hx5 hz5 t5 hT
                              go_upto_if 104 with fail
                              go_cut [13] (fun s13 wx => ∃ best' : Int, s13 = .int .i64 best' ∧ Hid (InvT ma mb x z cs best' ag S0 ix) ∧ Hid (EndS ma mb x z cs best' p q i j) ∧ Hid (TogW w #[.int .i64 (za : Int), .slice (some ⟨ba, oa, none⟩) na ca] #[.int .i64 (zb : Int), .slice (some ⟨bb, ob, none⟩) nb cb] (.slice ax X cx) (.slice az Z cz) nb wx cs))
                              case first =>
                                cases eb with
                                | false =>
                                  have HNE : Hid (EndS ma mb x z cs best p q i j) := fun h1 h2 => by
                                    have := of_decide_eq_false HEB.out
                                    rw [HXE.out] at h1
                                    rw [HZE.out] at h2
                                    exact absurd ⟨h1, h2⟩ this
                                  go_wp2
                                  go_meet
                                  case rel => exact ⟨best, rfl, HCT.out.1, HNE, HT5⟩
                                | true =>
                                  have hee := of_decide_eq_true HEB.out
                                  have HCU := hidP (HCT.out.2 hee.1 hee.2)
                                  obtain ⟨gs, hgs⟩ : ∃ gs, (if FA = 1000000001 ∨ FB = 1000000001 then 1000000001 else FA + FB) = gs := ⟨_, rfl⟩
                                  obtain ⟨tt, htt⟩ : ∃ tt, (if c = 1000000001 ∨ gs = 1000000001 then 1000000001 else c + gs) = tt := ⟨_, rfl⟩
                                  have hbt : bothT c FA FB = tt := by unfold bothT; rw [hgs]; exact htt
                                  rw [hbt] at HCU
                                  have HGS := hidP hgs
                                  have HTT := hidP htt
                                  have gsb : 0 ≤ gs ∧ gs ≤ 1000000001 := by
                                    rw [← hgs]
                                    split <;> omega
                                  have ttb : 0 ≤ tt ∧ tt ≤ 1000000001 := by
                                    rw [← htt]
                                    split
                                    · omega
                                    · have : gs ≤ 2000 ∨ gs = 1000000001 := by rw [← hgs]; split <;> omega
                                      omega
                                  clear hgs htt hbt HCT HEB hee
                                  by_cases hm : tt < best
                                  · rw [if_pos hm] at HCU
                                    have HS0 : HeldTg w.heap.size (.slice (some ⟨ba, oa, none⟩) na ca) (.slice (some ⟨bb, ob, none⟩) nb cb) ba (oa + p * 2) FA bb (ob + q * 2) FB wc.drew := ⟨HT5.out.a.cell 1 rfl, HT5.out.b.cell 1 rfl, (HBL.out.cell (p := ⟨ba, oa + p * 2, none⟩) hbaA).trans fa0, (HBL.out.cell (p := ⟨bb, ob + q * 2, none⟩) hbbB).trans fb0⟩
                                    go_wp2
                                    refine region_anyL (HeldTg w.heap.size (.slice (some ⟨ba, oa, none⟩) na ca) (.slice (some ⟨bb, ob, none⟩) nb cb) ba (oa + p * 2) FA bb (ob + q * 2) FB) 1000 (by kernel_rfl) ?_
                                    refine anyL_take (i := 0) (v := ?v0_1) at0 (by kernel_rfl) (by kernel_rfl) (by kernel_rfl) (by kernel_rfl) (fun _ _ _ h => h) rfl ?y0_1 HS0 ?r0_1
                                    case y0_1 => intro wx hx; obtain ⟨x0, x1, x2, x3⟩ := hx; go_simp; try (with_reducible rfl)
                                    simp only [Act.put, List.setIfInBounds_toArray, List.set_cons_zero, List.set_cons_succ]
                                    refine anyL_take (i := 1) (v := ?v1_2) (atS at0) (by kernel_rfl) (by kernel_rfl) (by kernel_rfl) (by kernel_rfl) (fun _ _ _ h => h) rfl ?y1_2 HS0 ?r1_2
                                    case y1_2 => intro wx hx; obtain ⟨x0, x1, x2, x3⟩ := hx; go_simp; try (with_reducible rfl)
                                    simp only [Act.put, List.setIfInBounds_toArray, List.set_cons_zero, List.set_cons_succ]
                                    refine anyL_take (i := 2) (v := ?v2_3) (atS (atS at0)) (by kernel_rfl) (by kernel_rfl) (by kernel_rfl) (by kernel_rfl) (fun _ _ _ h => h) rfl ?y2_3 HS0 ?r2_3
                                    case y2_3 => intro wx hx; obtain ⟨x0, x1, x2, x3⟩ := hx; go_simp; try (with_reducible rfl)
                                    simp only [Act.put, List.setIfInBounds_toArray, List.set_cons_zero, List.set_cons_succ]
                                    refine anyL_take (i := 3) (v := ?v3_4) (atS (atS (atS at0))) (by kernel_rfl) (by kernel_rfl) (by kernel_rfl) (by kernel_rfl) (fun _ _ _ h => h) rfl ?y3_4 HS0 ?r3_4
                                    case y3_4 => intro wx hx; obtain ⟨x0, x1, x2, x3⟩ := hx; go_simp; try (with_reducible rfl)
                                    simp only [Act.put, List.setIfInBounds_toArray, List.set_cons_zero, List.set_cons_succ]
                                    refine anyL_take (i := 4) (v := ?v4_5) (atS (atS (atS (atS at0)))) (by kernel_rfl) (by kernel_rfl) (by kernel_rfl) (by kernel_rfl) (fun _ _ _ h => h) rfl ?y4_5 HS0 ?r4_5
                                    case y4_5 => intro wx hx; obtain ⟨x0, x1, x2, x3⟩ := hx; go_simp; try (with_reducible rfl)
                                    simp only [Act.put, List.setIfInBounds_toArray, List.set_cons_zero, List.set_cons_succ]
                                    refine anyL_take (i := 5) (v := ?v5_6) (atS (atS (atS (atS (atS at0))))) (by kernel_rfl) (by kernel_rfl) (by kernel_rfl) (by kernel_rfl) (fun _ _ _ h => h) rfl ?y5_6 HS0 ?r5_6
                                    case y5_6 => intro wx hx; obtain ⟨x0, x1, x2, x3⟩ := hx; go_simp; try (with_reducible rfl)
                                    simp only [Act.put, List.setIfInBounds_toArray, List.set_cons_zero, List.set_cons_succ]
                                    refine anyL_take (i := 6) (v := ?v6_7) (atS (atS (atS (atS (atS (atS at0)))))) (by kernel_rfl) (by kernel_rfl) (by kernel_rfl) (by kernel_rfl) (fun _ _ _ h => h) rfl ?y6_7 HS0 ?r6_7
                                    case y6_7 => intro wx hx; obtain ⟨x0, x1, x2, x3⟩ := hx; go_simp; try (with_reducible rfl)
                                    simp only [Act.put, List.setIfInBounds_toArray, List.set_cons_zero, List.set_cons_succ]
                                    refine anyL_take (i := 7) (v := ?v7_8) (atS (atS (atS (atS (atS (atS (atS at0))))))) (by kernel_rfl) (by kernel_rfl) (by kernel_rfl) (by kernel_rfl) (fun _ _ _ h => h) rfl ?y7_8 HS0 ?r7_8
                                    case y7_8 => intro wx hx; obtain ⟨x0, x1, x2, x3⟩ := hx; go_simp; try (with_reducible rfl)
                                    simp only [Act.put, List.setIfInBounds_toArray, List.set_cons_zero, List.set_cons_succ]
                                    refine anyL_take (i := 8) (v := ?v8_9) (atS (atS (atS (atS (atS (atS (atS (atS at0)))))))) (by kernel_rfl) (by kernel_rfl) (by kernel_rfl) (by kernel_rfl) (fun _ _ _ h => h) rfl ?y8_9 HS0 ?r8_9
                                    case y8_9 => intro wx hx; obtain ⟨x0, x1, x2, x3⟩ := hx; go_simp; try (with_reducible rfl)
                                    simp only [Act.put, List.setIfInBounds_toArray, List.set_cons_zero, List.set_cons_succ]
                                    refine anyL_take (i := 9) (v := ?v9_10) (atS (atS (atS (atS (atS (atS (atS (atS (atS at0))))))))) (by kernel_rfl) (by kernel_rfl) (by kernel_rfl) (by kernel_rfl) (fun _ _ _ h => h) rfl ?y9_10 HS0 ?r9_10
                                    case y9_10 => intro wx hx; obtain ⟨x0, x1, x2, x3⟩ := hx; go_simp; try (with_reducible rfl)
                                    simp only [Act.put, List.setIfInBounds_toArray, List.set_cons_zero, List.set_cons_succ]
                                    refine anyL_take (i := 10) (v := ?v10_11) (atS (atS (atS (atS (atS (atS (atS (atS (atS (atS at0)))))))))) (by kernel_rfl) (by kernel_rfl) (by kernel_rfl) (by kernel_rfl) (fun _ _ _ h => h) rfl ?y10_11 HS0 ?r10_11
                                    case y10_11 => intro wx hx; obtain ⟨x0, x1, x2, x3⟩ := hx; go_simp; try (with_reducible rfl)
                                    simp only [Act.put, List.setIfInBounds_toArray, List.set_cons_zero, List.set_cons_succ]
                                    refine anyL_take (i := 11) (v := ?v11_12) (atS (atS (atS (atS (atS (atS (atS (atS (atS (atS (atS at0))))))))))) (by kernel_rfl) (by kernel_rfl) (by kernel_rfl) (by kernel_rfl) (fun _ _ _ h => h) rfl ?y11_12 HS0 ?r11_12
                                    case y11_12 => intro wx hx; obtain ⟨x0, x1, x2, x3⟩ := hx; go_simp; try (with_reducible rfl)
                                    simp only [Act.put, List.setIfInBounds_toArray, List.set_cons_zero, List.set_cons_succ]
                                    refine anyL_take (i := 12) (v := ?v12_13) (atS (atS (atS (atS (atS (atS (atS (atS (atS (atS (atS (atS at0)))))))))))) (by kernel_rfl) (by kernel_rfl) (by kernel_rfl) (by kernel_rfl) (fun _ _ _ h => h) rfl ?y12_13 HS0 ?r12_13
                                    case y12_13 => intro wx hx; obtain ⟨x0, x1, x2, x3⟩ := hx; go_simp; try (with_reducible rfl)
                                    simp only [Act.put, List.setIfInBounds_toArray, List.set_cons_zero, List.set_cons_succ]
                                    refine anyL_take (i := 13) (v := ?v13_14) (atS (atS (atS (atS (atS (atS (atS (atS (atS (atS (atS (atS (atS at0))))))))))))) (by kernel_rfl) (by kernel_rfl) (by kernel_rfl) (by kernel_rfl) (fun _ _ _ h => h) rfl ?y13_14 HS0 ?r13_14
                                    case y13_14 => intro wx hx; obtain ⟨x0, x1, x2, x3⟩ := hx; go_simp; try (with_reducible rfl)
                                    simp only [Act.put, List.setIfInBounds_toArray, List.set_cons_zero, List.set_cons_succ]
                                    refine anyL_one (i := 14) (atS (atS (atS (atS (atS (atS (atS (atS (atS (atS (atS (atS (atS (atS at0)))))))))))))) (by kernel_rfl) rfl (fun K hK => ?_)
                                    go_simp
                                    refine (bothR FA FB gs wc.drew ⟨hFA.1, hFA.2.1⟩ ⟨hFB.1, hFB.2.1⟩ HGS.out).mono ?_
                                    rintro e w6 ⟨rfl, rfl⟩
                                    refine hK _ _ (.inr HS0) ?_
                                    try simp only [Act.put, List.setIfInBounds_toArray, List.set_cons_zero, List.set_cons_succ]
                                    refine anyL_one (i := 15) (atS (atS (atS (atS (atS (atS (atS (atS (atS (atS (atS (atS (atS (atS (atS at0))))))))))))))) (by kernel_rfl) rfl (fun K hK => ?_)
                                    go_simp
                                    refine (bothR c gs tt wc.drew ⟨hrng.1, hrng.2⟩ gsb HTT.out).mono ?_
                                    rintro e w6 ⟨rfl, rfl⟩
                                    refine hK _ _ (.inr HS0) ?_
                                    try simp only [Act.put, List.setIfInBounds_toArray, List.set_cons_zero, List.set_cons_succ]
                                    refine anyL_one (i := 16) (atS (atS (atS (atS (atS (atS (atS (atS (atS (atS (atS (atS (atS (atS (atS (atS at0)))))))))))))))) (by kernel_rfl) rfl (fun K hK => ?_)
                                    go_simp
                                    refine hK _ _ (.inr HS0) ?_
                                    try simp only [Act.put, List.setIfInBounds_toArray, List.set_cons_zero, List.set_cons_succ]
                                    refine anyL_one (i := 17) (atS (atS (atS (atS (atS (atS (atS (atS (atS (atS (atS (atS (atS (atS (atS (atS (atS at0))))))))))))))))) (by kernel_rfl) rfl (fun K hK => ?_)
                                    go_simp
                                    refine hK _ _ (.inr HS0) (anyL_done (by kernel_rfl) (NoPanic.normal ?_))
                                    try simp only [Act.put, List.setIfInBounds_toArray, List.set_cons_zero, List.set_cons_succ]
                                    clear HS0
                                    try go_wp2
                                    go_meet
                                    case rel => exact ⟨_, rfl, HCU.out.1, HCU.out.2, HT5.out.drew⟩
                                  · rw [if_neg hm] at HCU
                                    have HS0 : HeldTg w.heap.size (.slice (some ⟨ba, oa, none⟩) na ca) (.slice (some ⟨bb, ob, none⟩) nb cb) ba (oa + p * 2) FA bb (ob + q * 2) FB wc.drew := ⟨HT5.out.a.cell 1 rfl, HT5.out.b.cell 1 rfl, (HBL.out.cell (p := ⟨ba, oa + p * 2, none⟩) hbaA).trans fa0, (HBL.out.cell (p := ⟨bb, ob + q * 2, none⟩) hbbB).trans fb0⟩
                                    go_wp2
                                    refine region_anyL (HeldTg w.heap.size (.slice (some ⟨ba, oa, none⟩) na ca) (.slice (some ⟨bb, ob, none⟩) nb cb) ba (oa + p * 2) FA bb (ob + q * 2) FB) 1000 (by kernel_rfl) ?_
                                    refine anyL_take (i := 0) (v := ?v0_15) at0 (by kernel_rfl) (by kernel_rfl) (by kernel_rfl) (by kernel_rfl) (fun _ _ _ h => h) rfl ?y0_15 HS0 ?r0_15
                                    case y0_15 => intro wx hx; obtain ⟨x0, x1, x2, x3⟩ := hx; go_simp; try (with_reducible rfl)
                                    simp only [Act.put, List.setIfInBounds_toArray, List.set_cons_zero, List.set_cons_succ]
                                    refine anyL_take (i := 1) (v := ?v1_16) (atS at0) (by kernel_rfl) (by kernel_rfl) (by kernel_rfl) (by kernel_rfl) (fun _ _ _ h => h) rfl ?y1_16 HS0 ?r1_16
                                    case y1_16 => intro wx hx; obtain ⟨x0, x1, x2, x3⟩ := hx; go_simp; try (with_reducible rfl)
                                    simp only [Act.put, List.setIfInBounds_toArray, List.set_cons_zero, List.set_cons_succ]
                                    refine anyL_take (i := 2) (v := ?v2_17) (atS (atS at0)) (by kernel_rfl) (by kernel_rfl) (by kernel_rfl) (by kernel_rfl) (fun _ _ _ h => h) rfl ?y2_17 HS0 ?r2_17
                                    case y2_17 => intro wx hx; obtain ⟨x0, x1, x2, x3⟩ := hx; go_simp; try (with_reducible rfl)
                                    simp only [Act.put, List.setIfInBounds_toArray, List.set_cons_zero, List.set_cons_succ]
                                    refine anyL_take (i := 3) (v := ?v3_18) (atS (atS (atS at0))) (by kernel_rfl) (by kernel_rfl) (by kernel_rfl) (by kernel_rfl) (fun _ _ _ h => h) rfl ?y3_18 HS0 ?r3_18
                                    case y3_18 => intro wx hx; obtain ⟨x0, x1, x2, x3⟩ := hx; go_simp; try (with_reducible rfl)
                                    simp only [Act.put, List.setIfInBounds_toArray, List.set_cons_zero, List.set_cons_succ]
                                    refine anyL_take (i := 4) (v := ?v4_19) (atS (atS (atS (atS at0)))) (by kernel_rfl) (by kernel_rfl) (by kernel_rfl) (by kernel_rfl) (fun _ _ _ h => h) rfl ?y4_19 HS0 ?r4_19
                                    case y4_19 => intro wx hx; obtain ⟨x0, x1, x2, x3⟩ := hx; go_simp; try (with_reducible rfl)
                                    simp only [Act.put, List.setIfInBounds_toArray, List.set_cons_zero, List.set_cons_succ]
                                    refine anyL_take (i := 5) (v := ?v5_20) (atS (atS (atS (atS (atS at0))))) (by kernel_rfl) (by kernel_rfl) (by kernel_rfl) (by kernel_rfl) (fun _ _ _ h => h) rfl ?y5_20 HS0 ?r5_20
                                    case y5_20 => intro wx hx; obtain ⟨x0, x1, x2, x3⟩ := hx; go_simp; try (with_reducible rfl)
                                    simp only [Act.put, List.setIfInBounds_toArray, List.set_cons_zero, List.set_cons_succ]
                                    refine anyL_take (i := 6) (v := ?v6_21) (atS (atS (atS (atS (atS (atS at0)))))) (by kernel_rfl) (by kernel_rfl) (by kernel_rfl) (by kernel_rfl) (fun _ _ _ h => h) rfl ?y6_21 HS0 ?r6_21
                                    case y6_21 => intro wx hx; obtain ⟨x0, x1, x2, x3⟩ := hx; go_simp; try (with_reducible rfl)
                                    simp only [Act.put, List.setIfInBounds_toArray, List.set_cons_zero, List.set_cons_succ]
                                    refine anyL_take (i := 7) (v := ?v7_22) (atS (atS (atS (atS (atS (atS (atS at0))))))) (by kernel_rfl) (by kernel_rfl) (by kernel_rfl) (by kernel_rfl) (fun _ _ _ h => h) rfl ?y7_22 HS0 ?r7_22
                                    case y7_22 => intro wx hx; obtain ⟨x0, x1, x2, x3⟩ := hx; go_simp; try (with_reducible rfl)
                                    simp only [Act.put, List.setIfInBounds_toArray, List.set_cons_zero, List.set_cons_succ]
                                    refine anyL_take (i := 8) (v := ?v8_23) (atS (atS (atS (atS (atS (atS (atS (atS at0)))))))) (by kernel_rfl) (by kernel_rfl) (by kernel_rfl) (by kernel_rfl) (fun _ _ _ h => h) rfl ?y8_23 HS0 ?r8_23
                                    case y8_23 => intro wx hx; obtain ⟨x0, x1, x2, x3⟩ := hx; go_simp; try (with_reducible rfl)
                                    simp only [Act.put, List.setIfInBounds_toArray, List.set_cons_zero, List.set_cons_succ]
                                    refine anyL_take (i := 9) (v := ?v9_24) (atS (atS (atS (atS (atS (atS (atS (atS (atS at0))))))))) (by kernel_rfl) (by kernel_rfl) (by kernel_rfl) (by kernel_rfl) (fun _ _ _ h => h) rfl ?y9_24 HS0 ?r9_24
                                    case y9_24 => intro wx hx; obtain ⟨x0, x1, x2, x3⟩ := hx; go_simp; try (with_reducible rfl)
                                    simp only [Act.put, List.setIfInBounds_toArray, List.set_cons_zero, List.set_cons_succ]
                                    refine anyL_take (i := 10) (v := ?v10_25) (atS (atS (atS (atS (atS (atS (atS (atS (atS (atS at0)))))))))) (by kernel_rfl) (by kernel_rfl) (by kernel_rfl) (by kernel_rfl) (fun _ _ _ h => h) rfl ?y10_25 HS0 ?r10_25
                                    case y10_25 => intro wx hx; obtain ⟨x0, x1, x2, x3⟩ := hx; go_simp; try (with_reducible rfl)
                                    simp only [Act.put, List.setIfInBounds_toArray, List.set_cons_zero, List.set_cons_succ]
                                    refine anyL_take (i := 11) (v := ?v11_26) (atS (atS (atS (atS (atS (atS (atS (atS (atS (atS (atS at0))))))))))) (by kernel_rfl) (by kernel_rfl) (by kernel_rfl) (by kernel_rfl) (fun _ _ _ h => h) rfl ?y11_26 HS0 ?r11_26
                                    case y11_26 => intro wx hx; obtain ⟨x0, x1, x2, x3⟩ := hx; go_simp; try (with_reducible rfl)
                                    simp only [Act.put, List.setIfInBounds_toArray, List.set_cons_zero, List.set_cons_succ]
                                    refine anyL_take (i := 12) (v := ?v12_27) (atS (atS (atS (atS (atS (atS (atS (atS (atS (atS (atS (atS at0)))))))))))) (by kernel_rfl) (by kernel_rfl) (by kernel_rfl) (by kernel_rfl) (fun _ _ _ h => h) rfl ?y12_27 HS0 ?r12_27
                                    case y12_27 => intro wx hx; obtain ⟨x0, x1, x2, x3⟩ := hx; go_simp; try (with_reducible rfl)
                                    simp only [Act.put, List.setIfInBounds_toArray, List.set_cons_zero, List.set_cons_succ]
                                    refine anyL_take (i := 13) (v := ?v13_28) (atS (atS (atS (atS (atS (atS (atS (atS (atS (atS (atS (atS (atS at0))))))))))))) (by kernel_rfl) (by kernel_rfl) (by kernel_rfl) (by kernel_rfl) (fun _ _ _ h => h) rfl ?y13_28 HS0 ?r13_28
                                    case y13_28 => intro wx hx; obtain ⟨x0, x1, x2, x3⟩ := hx; go_simp; try (with_reducible rfl)
                                    simp only [Act.put, List.setIfInBounds_toArray, List.set_cons_zero, List.set_cons_succ]
                                    refine anyL_one (i := 14) (atS (atS (atS (atS (atS (atS (atS (atS (atS (atS (atS (atS (atS (atS at0)))))))))))))) (by kernel_rfl) rfl (fun K hK => ?_)
                                    go_simp
                                    refine (bothR FA FB gs wc.drew ⟨hFA.1, hFA.2.1⟩ ⟨hFB.1, hFB.2.1⟩ HGS.out).mono ?_
                                    rintro e w6 ⟨rfl, rfl⟩
                                    refine hK _ _ (.inr HS0) ?_
                                    try simp only [Act.put, List.setIfInBounds_toArray, List.set_cons_zero, List.set_cons_succ]
                                    refine anyL_one (i := 15) (atS (atS (atS (atS (atS (atS (atS (atS (atS (atS (atS (atS (atS (atS (atS at0))))))))))))))) (by kernel_rfl) rfl (fun K hK => ?_)
                                    go_simp
                                    refine (bothR c gs tt wc.drew ⟨hrng.1, hrng.2⟩ gsb HTT.out).mono ?_
                                    rintro e w6 ⟨rfl, rfl⟩
                                    refine hK _ _ (.inr HS0) ?_
                                    try simp only [Act.put, List.setIfInBounds_toArray, List.set_cons_zero, List.set_cons_succ]
                                    refine anyL_one (i := 16) (atS (atS (atS (atS (atS (atS (atS (atS (atS (atS (atS (atS (atS (atS (atS (atS at0)))))))))))))))) (by kernel_rfl) rfl (fun K hK => ?_)
                                    go_simp
                                    refine hK _ _ (.inr HS0) ?_
                                    try simp only [Act.put, List.setIfInBounds_toArray, List.set_cons_zero, List.set_cons_succ]
                                    refine anyL_one (i := 17) (atS (atS (atS (atS (atS (atS (atS (atS (atS (atS (atS (atS (atS (atS (atS (atS (atS at0))))))))))))))))) (by kernel_rfl) rfl (fun K hK => ?_)
                                    go_simp
                                    refine hK _ _ (.inr HS0) (anyL_done (by kernel_rfl) (NoPanic.normal ?_))
                                    try simp only [Act.put, List.setIfInBounds_toArray, List.set_cons_zero, List.set_cons_succ]
                                    clear HS0
                                    try go_wp2
                                    go_meet
                                    case rel => exact ⟨_, rfl, HCU.out.1, HCU.out.2, HT5.out.drew⟩
                              case rest =>
                                obtain ⟨best', rfl, hI, hES, hT6⟩ := hcut
                                have HB6 := hidP hT6.out.bel
                                have HS0 : HeldTs w.heap.size (.slice (some ⟨ba, oa, none⟩) na ca) (.slice (some ⟨bb, ob, none⟩) nb cb) (.slice ax X cx) (.slice az Z cz) ba (oa + p * 2) ua bb (ob + q * 2) ub wc.drew := ⟨hT6.out.a.cell 1 rfl, hT6.out.b.cell 1 rfl, hT6.out.x.cell 0 rfl, hT6.out.z.cell 0 rfl, (HB6.out.cell (p := ⟨ba, oa + p * 2 + 1, none⟩) hbaA).trans fa1, (HB6.out.cell (p := ⟨bb, ob + q * 2 + 1, none⟩) hbbB).trans fb1⟩
                                clear HCT HEB HT5 HBL
                                have hlA := HLA.out p hpn
                                have hlB := HLB.out q hqn
                                have HSDs := hidP (HSD.out p q i j hpn hqn hiX hjZ)
                                go_wp2
                                refine region_anyL (HeldTs w.heap.size (.slice (some ⟨ba, oa, none⟩) na ca) (.slice (some ⟨bb, ob, none⟩) nb cb) (.slice ax X cx) (.slice az Z cz) ba (oa + p * 2) ua bb (ob + q * 2) ub) 1000 (by kernel_rfl) ?_
                                refine anyL_take (i := 0) (v := ?v0_29) at0 (by kernel_rfl) (by kernel_rfl) (by kernel_rfl) (by kernel_rfl) (fun _ _ _ h => h) rfl ?y0_29 HS0 ?r0_29
                                case y0_29 => intro wx hx; obtain ⟨x0, x1, x2, x3, x4, x5⟩ := hx; go_simp; try (with_reducible rfl)
                                simp only [Act.put, List.setIfInBounds_toArray, List.set_cons_zero, List.set_cons_succ]
                                refine anyL_take (i := 1) (v := ?v1_30) (atS at0) (by kernel_rfl) (by kernel_rfl) (by kernel_rfl) (by kernel_rfl) (fun _ _ _ h => h) rfl ?y1_30 HS0 ?r1_30
                                case y1_30 => intro wx hx; obtain ⟨x0, x1, x2, x3, x4, x5⟩ := hx; go_simp; try (with_reducible rfl)
                                simp only [Act.put, List.setIfInBounds_toArray, List.set_cons_zero, List.set_cons_succ]
                                refine anyL_take (i := 2) (v := ?v2_31) (atS (atS at0)) (by kernel_rfl) (by kernel_rfl) (by kernel_rfl) (by kernel_rfl) (fun _ _ _ h => h) rfl ?y2_31 HS0 ?r2_31
                                case y2_31 => intro wx hx; obtain ⟨x0, x1, x2, x3, x4, x5⟩ := hx; go_simp; try (with_reducible rfl)
                                simp only [Act.put, List.setIfInBounds_toArray, List.set_cons_zero, List.set_cons_succ]
                                refine anyL_take (i := 3) (v := ?v3_32) (atS (atS (atS at0))) (by kernel_rfl) (by kernel_rfl) (by kernel_rfl) (by kernel_rfl) (fun _ _ _ h => h) rfl ?y3_32 HS0 ?r3_32
                                case y3_32 => intro wx hx; obtain ⟨x0, x1, x2, x3, x4, x5⟩ := hx; go_simp; try (with_reducible rfl)
                                simp only [Act.put, List.setIfInBounds_toArray, List.set_cons_zero, List.set_cons_succ]
                                refine anyL_take (i := 4) (v := ?v4_33) (atS (atS (atS (atS at0)))) (by kernel_rfl) (by kernel_rfl) (by kernel_rfl) (by kernel_rfl) (fun _ _ _ h => h) rfl ?y4_33 HS0 ?r4_33
                                case y4_33 => intro wx hx; obtain ⟨x0, x1, x2, x3, x4, x5⟩ := hx; go_simp; try (with_reducible rfl)
                                simp only [Act.put, List.setIfInBounds_toArray, List.set_cons_zero, List.set_cons_succ]
                                refine anyL_take (i := 5) (v := ?v5_34) (atS (atS (atS (atS (atS at0))))) (by kernel_rfl) (by kernel_rfl) (by kernel_rfl) (by kernel_rfl) (fun _ _ _ h => h) rfl ?y5_34 HS0 ?r5_34
                                case y5_34 => intro wx hx; obtain ⟨x0, x1, x2, x3, x4, x5⟩ := hx; go_simp; try (with_reducible rfl)
                                simp only [Act.put, List.setIfInBounds_toArray, List.set_cons_zero, List.set_cons_succ]
                                refine anyL_take (i := 6) (v := ?v6_35) (atS (atS (atS (atS (atS (atS at0)))))) (by kernel_rfl) (by kernel_rfl) (by kernel_rfl) (by kernel_rfl) (fun _ _ _ h => h) rfl ?y6_35 HS0 ?r6_35
                                case y6_35 => intro wx hx; obtain ⟨x0, x1, x2, x3, x4, x5⟩ := hx; go_simp; try (with_reducible rfl)
                                simp only [Act.put, List.setIfInBounds_toArray, List.set_cons_zero, List.set_cons_succ]
                                refine anyL_take (i := 7) (v := ?v7_36) (atS (atS (atS (atS (atS (atS (atS at0))))))) (by kernel_rfl) (by kernel_rfl) (by kernel_rfl) (by kernel_rfl) (fun _ _ _ h => h) rfl ?y7_36 HS0 ?r7_36
                                case y7_36 => intro wx hx; obtain ⟨x0, x1, x2, x3, x4, x5⟩ := hx; go_simp; try (with_reducible rfl)
                                simp only [Act.put, List.setIfInBounds_toArray, List.set_cons_zero, List.set_cons_succ]
                                refine anyL_take (i := 8) (v := ?v8_37) (atS (atS (atS (atS (atS (atS (atS (atS at0)))))))) (by kernel_rfl) (by kernel_rfl) (by kernel_rfl) (by kernel_rfl) (fun _ _ _ h => h) rfl ?y8_37 HS0 ?r8_37
                                case y8_37 => intro wx hx; obtain ⟨x0, x1, x2, x3, x4, x5⟩ := hx; go_simp; try (with_reducible rfl)
                                simp only [Act.put, List.setIfInBounds_toArray, List.set_cons_zero, List.set_cons_succ]
                                refine anyL_take (i := 9) (v := ?v9_38) (atS (atS (atS (atS (atS (atS (atS (atS (atS at0))))))))) (by kernel_rfl) (by kernel_rfl) (by kernel_rfl) (by kernel_rfl) (fun _ _ _ h => h) rfl ?y9_38 HS0 ?r9_38
                                case y9_38 => intro wx hx; obtain ⟨x0, x1, x2, x3, x4, x5⟩ := hx; go_simp; try (with_reducible rfl)
                                simp only [Act.put, List.setIfInBounds_toArray, List.set_cons_zero, List.set_cons_succ]
                                refine anyL_take (i := 10) (v := ?v10_39) (atS (atS (atS (atS (atS (atS (atS (atS (atS (atS at0)))))))))) (by kernel_rfl) (by kernel_rfl) (by kernel_rfl) (by kernel_rfl) (fun _ _ _ h => h) rfl ?y10_39 HS0 ?r10_39
                                case y10_39 => intro wx hx; obtain ⟨x0, x1, x2, x3, x4, x5⟩ := hx; go_simp; try (with_reducible rfl)
                                simp only [Act.put, List.setIfInBounds_toArray, List.set_cons_zero, List.set_cons_succ]
                                refine anyL_take (i := 11) (v := ?v11_40) (atS (atS (atS (atS (atS (atS (atS (atS (atS (atS (atS at0))))))))))) (by kernel_rfl) (by kernel_rfl) (by kernel_rfl) (by kernel_rfl) (fun _ _ _ h => h) rfl ?y11_40 HS0 ?r11_40
                                case y11_40 => intro wx hx; obtain ⟨x0, x1, x2, x3, x4, x5⟩ := hx; go_simp; try (with_reducible rfl)
                                simp only [Act.put, List.setIfInBounds_toArray, List.set_cons_zero, List.set_cons_succ]
                                refine anyL_take (i := 12) (v := ?v12_41) (atS (atS (atS (atS (atS (atS (atS (atS (atS (atS (atS (atS at0)))))))))))) (by kernel_rfl) (by kernel_rfl) (by kernel_rfl) (by kernel_rfl) (fun _ _ _ h => h) rfl ?y12_41 HS0 ?r12_41
                                case y12_41 => intro wx hx; obtain ⟨x0, x1, x2, x3, x4, x5⟩ := hx; go_simp; try (with_reducible rfl)
                                simp only [Act.put, List.setIfInBounds_toArray, List.set_cons_zero, List.set_cons_succ]
                                refine anyL_take (i := 13) (v := ?v13_42) (atS (atS (atS (atS (atS (atS (atS (atS (atS (atS (atS (atS (atS at0))))))))))))) (by kernel_rfl) (by kernel_rfl) (by kernel_rfl) (by kernel_rfl) (fun _ _ _ h => h) rfl ?y13_42 HS0 ?r13_42
                                case y13_42 => intro wx hx; obtain ⟨x0, x1, x2, x3, x4, x5⟩ := hx; go_simp; try (with_reducible rfl)
                                simp only [Act.put, List.setIfInBounds_toArray, List.set_cons_zero, List.set_cons_succ]
                                refine anyL_take (i := 14) (v := ?v14_43) (atS (atS (atS (atS (atS (atS (atS (atS (atS (atS (atS (atS (atS (atS at0)))))))))))))) (by kernel_rfl) (by kernel_rfl) (by kernel_rfl) (by kernel_rfl) (fun _ _ _ h => h) rfl ?y14_43 HS0 ?r14_43
                                case y14_43 => intro wx hx; obtain ⟨x0, x1, x2, x3, x4, x5⟩ := hx; go_simp; try (with_reducible rfl)
                                simp only [Act.put, List.setIfInBounds_toArray, List.set_cons_zero, List.set_cons_succ]
                                refine anyL_take (i := 15) (v := ?v15_44) (atS (atS (atS (atS (atS (atS (atS (atS (atS (atS (atS (atS (atS (atS (atS at0))))))))))))))) (by kernel_rfl) (by kernel_rfl) (by kernel_rfl) (by kernel_rfl) (fun _ _ _ h => h) rfl ?y15_44 HS0 ?r15_44
                                case y15_44 => intro wx hx; obtain ⟨x0, x1, x2, x3, x4, x5⟩ := hx; go_simp; try (with_reducible rfl)
                                simp only [Act.put, List.setIfInBounds_toArray, List.set_cons_zero, List.set_cons_succ]
                                refine anyL_take (i := 16) (v := ?v16_45) (atS (atS (atS (atS (atS (atS (atS (atS (atS (atS (atS (atS (atS (atS (atS (atS at0)))))))))))))))) (by kernel_rfl) (by kernel_rfl) (by kernel_rfl) (by kernel_rfl) (fun _ _ _ h => h) rfl ?y16_45 HS0 ?r16_45
                                case y16_45 => intro wx hx; obtain ⟨x0, x1, x2, x3, x4, x5⟩ := hx; go_simp; try (with_reducible rfl)
                                simp only [Act.put, List.setIfInBounds_toArray, List.set_cons_zero, List.set_cons_succ]
                                refine anyL_take (i := 17) (v := ?v17_46) (atS (atS (atS (atS (atS (atS (atS (atS (atS (atS (atS (atS (atS (atS (atS (atS (atS at0))))))))))))))))) (by kernel_rfl) (by kernel_rfl) (by kernel_rfl) (by kernel_rfl) (fun _ _ _ h => h) rfl ?y17_46 HS0 ?r17_46
                                case y17_46 => intro wx hx; obtain ⟨x0, x1, x2, x3, x4, x5⟩ := hx; go_simp; try (with_reducible rfl)
                                simp only [Act.put, List.setIfInBounds_toArray, List.set_cons_zero, List.set_cons_succ]
                                refine anyL_take (i := 18) (v := ?v18_47) (atS (atS (atS (atS (atS (atS (atS (atS (atS (atS (atS (atS (atS (atS (atS (atS (atS (atS at0)))))))))))))))))) (by kernel_rfl) (by kernel_rfl) (by kernel_rfl) (by kernel_rfl) (fun _ _ _ h => h) rfl ?y18_47 HS0 ?r18_47
                                case y18_47 => intro wx hx; obtain ⟨x0, x1, x2, x3, x4, x5⟩ := hx; go_simp; try (with_reducible rfl)
                                simp only [Act.put, List.setIfInBounds_toArray, List.set_cons_zero, List.set_cons_succ]
                                refine anyL_one (i := 19) (atS (atS (atS (atS (atS (atS (atS (atS (atS (atS (atS (atS (atS (atS (atS (atS (atS (atS (atS at0))))))))))))))))))) (by kernel_rfl) rfl (fun K hK => ?_)
                                go_simp
                                refine (steps_any ua ub _ _ (el ma.2 p).2 (el mb.2 q).2 p q i j x z wc.drew (hUA.later HB6.out.drew (Nat.le_refl _)) (hUB.later HB6.out.drew (Nat.le_refl _)) (HNX.out.later HB6.out.drew (Nat.le_refl _)) (HNZ.out.later HB6.out.drew (Nat.le_refl _)) hlA.1 hlB.1 (by omega) (by omega) hlA.2 hlB.2).mono ?_
                                rintro e w7 ⟨a7, c7, m7, rfl, hm7, hO7, hb7⟩
                                have hb7' := below_undrewX hb7
                                have HS7 : HeldTs w.heap.size (.slice (some ⟨ba, oa, none⟩) na ca) (.slice (some ⟨bb, ob, none⟩) nb cb) (.slice ax X cx) (.slice az Z cz) ba (oa + p * 2) ua bb (ob + q * 2) ub w7 := HeldTs.later HS0 hb7 (by show w.heap.size + 3 < wc.heap.size; exact hT6.out.z.lt) (by show ba < wc.heap.size; have := HB6.out.size; omega) (by show bb < wc.heap.size; have := HB6.out.size; omega)
                                have HT7 := hidP (hT6.out.later hb7')
                                have HB9 : Hid (w.heap.size + 5 < wc.heap.size) := hT6.out.t.lt
                                have HO7 : Hid (OwnD w7 (w.heap.size + 6) (.slice a7 m7 c7) (sdL (el ma.2 p).2 (el mb.2 q).2 (p, q, i, j) x z)) := ownMono hO7 (by have := HB9.out; show w.heap.size + 6 ≤ wc.heap.size + 1; omega)
                                have HST : Hid (StrT ma mb x z cs best' ag S0 ix p q i j c 0) := StrT.first hI.out (by rw [HIT.out]; exact HC.out)
                                have HM7 := hidP hm7
                                have hm7b : m7 ≤ 200000 := by rw [← hm7]; exact sdL_len hlA.1 hlB.1
                                refine hK _ _ (.inr HS7) ?_
                                try simp only [Act.put, List.setIfInBounds_toArray, List.set_cons_zero, List.set_cons_succ]
                                refine anyL_one (i := 20) (atS (atS (atS (atS (atS (atS (atS (atS (atS (atS (atS (atS (atS (atS (atS (atS (atS (atS (atS (atS at0)))))))))))))))))))) (by kernel_rfl) rfl (fun K hK => ?_)
                                go_simp
                                refine hK _ _ (.inr HS7) (anyL_done (by kernel_rfl) (NoPanic.normal ?_))
                                try simp only [Act.put, List.setIfInBounds_toArray, List.set_cons_zero, List.set_cons_succ]
                                clear HS0 HS7 hm7 hO7 hb7 hb7' hI hT6 HB6 HB9
                                go_wp2
                                go_loopw [14, 21] (fun s14 s21 wr => ∃ (ag : Bool) (cs : List Int) (k1 : Nat), s14 = .bool ag ∧ s21 = .int .i64 k1 ∧ k1 ≤ m7 ∧ Hid (TogW w #[.int .i64 (za : Int), .slice (some ⟨ba, oa, none⟩) na ca] #[.int .i64 (zb : Int), .slice (some ⟨bb, ob, none⟩) nb cb] (.slice ax X cx) (.slice az Z cz) nb wr cs) ∧ Hid (StrT ma mb x z cs best' ag S0 ix p q i j c k1) ∧ Hid (LowT cs) ∧ Hid (OwnD wr (w.heap.size + 6) (.slice a7 m7 c7) (sdL (el ma.2 p).2 (el mb.2 q).2 (p, q, i, j) x z))) (fun _ s21 _ => m7 - (intOf s21).toNat)
                                case atStart => exact ⟨ag, cs, 0, rfl, rfl, Nat.zero_le _, HT7, HST, hLw, HO7⟩
                                case round =>
                                  clear HT7 HST HO7
                                  obtain ⟨ag8, cs8, k1, rfl, rfl, hk1, hT8, hSt, hL8, hO8⟩ := hrel
                                  obtain ⟨w8, hw8⟩ : ∃ w8, w8 = wr := ⟨_, rfl⟩
                                  subst hw8
                                  by_cases hkm : k1 < m7
                                  · have k0i : (0 : Int) ≤ (k1 : Int) := by omega
                                    have k1i : (k1 : Int) < (m7 : Int) := by omega
                                    have hkl : k1 < (sdL (el ma.2 p).2 (el mb.2 q).2 (p, q, i, j) x z).length := by rw [HM7.out]; exact hkm
                                    obtain ⟨b, rfl, hbB, hbl, hsc⟩ := OwnD.get hO8.out hkl
                                    obtain ⟨p', q', i', j', e1, e2, e3, e4, g1, g2, g3, g4, g5, g6⟩ := HSDs.out _ (el_mem hkl)
                                    have HSKP := hidP (fun h => hSt.out.skip rfl e1 e2 e3 e4 h)
                                    have HPUT := hidP (fun h => hSt.out.put HF1.out HF2.out (by rw [HNA.out]; exact hpn) (by rw [HNB.out]; exact hqn) (by rw [HXE.out]; exact hiX) (by rw [HZE.out]; exact hjZ) hcl hkl rfl e1 e2 e3 e4 (by rw [HNA.out]; exact g1) (by rw [HNB.out]; exact g2) (by rw [HXE.out]; exact g3) (by rw [HZE.out]; exact g4) g5 h)
                                    have HJT := hidP (HIX.out p' q' i' j')
                                    have hjl := HIL.out p' q' i' j' g1 g2 g3 g4
                                    have hlen8 := HTL.out cs8 hSt.out.inv.tab
                                    obtain ⟨jx, hjx⟩ : ∃ jx, ixS nb X Z p' q' i' j' = jx := ⟨_, rfl⟩
                                    have HJ0 := hidP hjx
                                    rw [hjx] at HJT hjl
                                    rw [HJT.out] at HSKP HPUT
                                    rw [e1, e2, e3, e4] at hsc
                                    have hyr := hSt.out.inv.tab.rng jx (by rw [hlen8]; exact hjl)
                                    have t8 := num_cell hT8.out.t (j := jx) (by rw [hlen8]; exact hjl)
                                    have HLPUT := hidP (fun h => LowT.put hL8.out (s := ix) (k := jx) (by rw [hlen8]; exact hil) (by have := hSt.out.cur; rw [HIT.out] at this; exact this) (by rw [hlen8]; exact hjl) g6 hcl h hyr.2)
                                    obtain ⟨d4, hd4⟩ : ∃ d4, (el (sdL (el ma.2 p).2 (el mb.2 q).2 (p, q, i, j) x z) k1).2.2.2.2 = d4 := ⟨_, rfl⟩
                                    obtain ⟨y, hy⟩ : ∃ y, el cs8 jx = y := ⟨_, rfl⟩
                                    rw [hd4] at hsc HSKP HPUT HLPUT g5 g6
                                    rw [hy] at t8 hyr HSKP HPUT HLPUT
                                    clear hd4 hy hjx e1 e2 e3 e4
                                    have HSC := hsc
                                    have l0 : (0 : Int) ≤ (jx : Int) := by omega
                                    have l1 : (jx : Int) < (k : Int) := by omega
                                    have hwr : IntKind.i64.wrap (c + d4) = c + d4 := wrapI (by omega) (by omega)
                                    by_cases hlt : c + d4 < y
                                    · have HSN := hidP (HPUT.out hlt)
                                      have HLN := hidP (HLPUT.out hlt)
                                      clear HSKP HPUT HLPUT hsc
                                      have HS1 : HeldSt b (k1 * 5) (p' : Int) (q' : Int) (i' : Int) (j' : Int) d4 (w.heap.size + 5) jx y w8.drew := ⟨HSC, t8⟩
                                      go_wp2
                                      refine region_anyL (HeldSt b (k1 * 5) (p' : Int) (q' : Int) (i' : Int) (j' : Int) d4 (w.heap.size + 5) jx y) 1000 (by kernel_rfl) ?_
                                      refine anyL_take (i := 0) (v := ?v0_48) at0 (by kernel_rfl) (by kernel_rfl) (by kernel_rfl) (by kernel_rfl) (fun _ _ _ h => h) rfl ?y0_48 HS1 ?r0_48
                                      case y0_48 => intro wx hx; obtain ⟨⟨x0, x1, x2, x3, x4⟩, x5⟩ := hx; go_simp; try (with_reducible rfl)
                                      simp only [Act.put, List.setIfInBounds_toArray, List.set_cons_zero, List.set_cons_succ]
                                      refine anyL_take (i := 1) (v := ?v1_49) (atS at0) (by kernel_rfl) (by kernel_rfl) (by kernel_rfl) (by kernel_rfl) (fun _ _ _ h => h) rfl ?y1_49 HS1 ?r1_49
                                      case y1_49 => intro wx hx; obtain ⟨⟨x0, x1, x2, x3, x4⟩, x5⟩ := hx; go_simp; try (with_reducible rfl)
                                      simp only [Act.put, List.setIfInBounds_toArray, List.set_cons_zero, List.set_cons_succ]
                                      refine anyL_take (i := 2) (v := ?v2_50) (atS (atS at0)) (by kernel_rfl) (by kernel_rfl) (by kernel_rfl) (by kernel_rfl) (fun _ _ _ h => h) rfl ?y2_50 HS1 ?r2_50
                                      case y2_50 => intro wx hx; obtain ⟨⟨x0, x1, x2, x3, x4⟩, x5⟩ := hx; go_simp; try (with_reducible rfl)
                                      simp only [Act.put, List.setIfInBounds_toArray, List.set_cons_zero, List.set_cons_succ]
                                      refine anyL_take (i := 3) (v := ?v3_51) (atS (atS (atS at0))) (by kernel_rfl) (by kernel_rfl) (by kernel_rfl) (by kernel_rfl) (fun _ _ _ h => h) rfl ?y3_51 HS1 ?r3_51
                                      case y3_51 => intro wx hx; obtain ⟨⟨x0, x1, x2, x3, x4⟩, x5⟩ := hx; go_simp; try (with_reducible rfl)
                                      simp only [Act.put, List.setIfInBounds_toArray, List.set_cons_zero, List.set_cons_succ]
                                      refine anyL_take (i := 4) (v := ?v4_52) (atS (atS (atS (atS at0)))) (by kernel_rfl) (by kernel_rfl) (by kernel_rfl) (by kernel_rfl) (fun _ _ _ h => h) rfl ?y4_52 HS1 ?r4_52
                                      case y4_52 => intro wx hx; obtain ⟨⟨x0, x1, x2, x3, x4⟩, x5⟩ := hx; go_simp; try (with_reducible rfl)
                                      simp only [Act.put, List.setIfInBounds_toArray, List.set_cons_zero, List.set_cons_succ]
                                      refine anyL_take (i := 5) (v := ?v5_53) (atS (atS (atS (atS (atS at0))))) (by kernel_rfl) (by kernel_rfl) (by kernel_rfl) (by kernel_rfl) (fun _ _ _ h => h) rfl ?y5_53 HS1 ?r5_53
                                      case y5_53 => intro wx hx; obtain ⟨⟨x0, x1, x2, x3, x4⟩, x5⟩ := hx; go_simp; try (with_reducible rfl)
                                      simp only [Act.put, List.setIfInBounds_toArray, List.set_cons_zero, List.set_cons_succ]
                                      refine anyL_take (i := 6) (v := ?v6_54) (atS (atS (atS (atS (atS (atS at0)))))) (by kernel_rfl) (by kernel_rfl) (by kernel_rfl) (by kernel_rfl) (fun _ _ _ h => h) rfl ?y6_54 HS1 ?r6_54
                                      case y6_54 => intro wx hx; obtain ⟨⟨x0, x1, x2, x3, x4⟩, x5⟩ := hx; go_simp; try (with_reducible rfl)
                                      simp only [Act.put, List.setIfInBounds_toArray, List.set_cons_zero, List.set_cons_succ]
                                      refine anyL_take (i := 7) (v := ?v7_55) (atS (atS (atS (atS (atS (atS (atS at0))))))) (by kernel_rfl) (by kernel_rfl) (by kernel_rfl) (by kernel_rfl) (fun _ _ _ h => h) rfl ?y7_55 HS1 ?r7_55
                                      case y7_55 => intro wx hx; obtain ⟨⟨x0, x1, x2, x3, x4⟩, x5⟩ := hx; go_simp; try (with_reducible rfl)
                                      simp only [Act.put, List.setIfInBounds_toArray, List.set_cons_zero, List.set_cons_succ]
                                      refine anyL_take (i := 8) (v := ?v8_56) (atS (atS (atS (atS (atS (atS (atS (atS at0)))))))) (by kernel_rfl) (by kernel_rfl) (by kernel_rfl) (by kernel_rfl) (fun _ _ _ h => h) rfl ?y8_56 HS1 ?r8_56
                                      case y8_56 => intro wx hx; obtain ⟨⟨x0, x1, x2, x3, x4⟩, x5⟩ := hx; go_simp; try (with_reducible rfl)
                                      simp only [Act.put, List.setIfInBounds_toArray, List.set_cons_zero, List.set_cons_succ]
                                      refine anyL_take (i := 9) (v := ?v9_57) (atS (atS (atS (atS (atS (atS (atS (atS (atS at0))))))))) (by kernel_rfl) (by kernel_rfl) (by kernel_rfl) (by kernel_rfl) (fun _ _ _ h => h) rfl ?y9_57 HS1 ?r9_57
                                      case y9_57 => intro wx hx; obtain ⟨⟨x0, x1, x2, x3, x4⟩, x5⟩ := hx; go_simp; try (with_reducible rfl)
                                      simp only [Act.put, List.setIfInBounds_toArray, List.set_cons_zero, List.set_cons_succ]
                                      refine anyL_take (i := 10) (v := ?v10_58) (atS (atS (atS (atS (atS (atS (atS (atS (atS (atS at0)))))))))) (by kernel_rfl) (by kernel_rfl) (by kernel_rfl) (by kernel_rfl) (fun _ _ _ h => h) rfl ?y10_58 HS1 ?r10_58
                                      case y10_58 => intro wx hx; obtain ⟨⟨x0, x1, x2, x3, x4⟩, x5⟩ := hx; go_simp; try (with_reducible rfl)
                                      simp only [Act.put, List.setIfInBounds_toArray, List.set_cons_zero, List.set_cons_succ]
                                      refine anyL_take (i := 11) (v := ?v11_59) (atS (atS (atS (atS (atS (atS (atS (atS (atS (atS (atS at0))))))))))) (by kernel_rfl) (by kernel_rfl) (by kernel_rfl) (by kernel_rfl) (fun _ _ _ h => h) rfl ?y11_59 HS1 ?r11_59
                                      case y11_59 => intro wx hx; obtain ⟨⟨x0, x1, x2, x3, x4⟩, x5⟩ := hx; go_simp; try (with_reducible rfl)
                                      simp only [Act.put, List.setIfInBounds_toArray, List.set_cons_zero, List.set_cons_succ]
                                      refine anyL_take (i := 12) (v := ?v12_60) (atS (atS (atS (atS (atS (atS (atS (atS (atS (atS (atS (atS at0)))))))))))) (by kernel_rfl) (by kernel_rfl) (by kernel_rfl) (by kernel_rfl) (fun _ _ _ h => h) rfl ?y12_60 HS1 ?r12_60
                                      case y12_60 => intro wx hx; obtain ⟨⟨x0, x1, x2, x3, x4⟩, x5⟩ := hx; go_simp; try (with_reducible rfl)
                                      simp only [Act.put, List.setIfInBounds_toArray, List.set_cons_zero, List.set_cons_succ]
                                      refine anyL_take (i := 13) (v := ?v13_61) (atS (atS (atS (atS (atS (atS (atS (atS (atS (atS (atS (atS (atS at0))))))))))))) (by kernel_rfl) (by kernel_rfl) (by kernel_rfl) (by kernel_rfl) (fun _ _ _ h => h) rfl ?y13_61 HS1 ?r13_61
                                      case y13_61 => intro wx hx; obtain ⟨⟨x0, x1, x2, x3, x4⟩, x5⟩ := hx; go_simp; try (with_reducible rfl)
                                      simp only [Act.put, List.setIfInBounds_toArray, List.set_cons_zero, List.set_cons_succ]
                                      refine anyL_one (i := 14) (atS (atS (atS (atS (atS (atS (atS (atS (atS (atS (atS (atS (atS (atS at0)))))))))))))) (by kernel_rfl) rfl (fun K hK => ?_)
                                      go_simp
                                      refine (at_ix p' q' i' j' jx hT8.out.drew (by omega) (by omega) (by omega) (by omega) (by omega) (by omega) (by omega) HJ0.out).mono ?_
                                      rintro e w9 ⟨rfl, hb9⟩
                                      have hb9' := below_undrewX hb9
                                      have s9 := hb9'.size
                                      have HS9 : HeldSt b (k1 * 5) (p' : Int) (q' : Int) (i' : Int) (j' : Int) d4 (w.heap.size + 5) jx y w9 := ⟨HeldSd.later HSC hb9' hbl, (hb9'.cell (p := ⟨w.heap.size + 5, jx, none⟩) hT8.out.t.lt).trans t8⟩
                                      have HT9 := hidP (hT8.out.later hb9')
                                      have HO9 := hidP (OwnD.later hO8.out hb9')
                                      refine hK _ _ (.inr HS9) ?_
                                      try simp only [Act.put, List.setIfInBounds_toArray, List.set_cons_zero, List.set_cons_succ]
                                      clear HS1 hb9 hb9'
                                      refine anyL_take (i := 15) (v := ?v15_62) (atS (atS (atS (atS (atS (atS (atS (atS (atS (atS (atS (atS (atS (atS (atS at0))))))))))))))) (by kernel_rfl) (by kernel_rfl) (by kernel_rfl) (by kernel_rfl) (fun _ _ _ h => h) rfl ?y15_62 HS9 ?r15_62
                                      case y15_62 => intro wx hx; obtain ⟨⟨x0, x1, x2, x3, x4⟩, x5⟩ := hx; go_simp; try (with_reducible rfl)
                                      simp only [Act.put, List.setIfInBounds_toArray, List.set_cons_zero, List.set_cons_succ]
                                      refine anyL_take (i := 16) (v := ?v16_63) (atS (atS (atS (atS (atS (atS (atS (atS (atS (atS (atS (atS (atS (atS (atS (atS at0)))))))))))))))) (by kernel_rfl) (by kernel_rfl) (by kernel_rfl) (by kernel_rfl) (fun _ _ _ h => h) rfl ?y16_63 HS9 ?r16_63
                                      case y16_63 => intro wx hx; obtain ⟨⟨x0, x1, x2, x3, x4⟩, x5⟩ := hx; go_simp; try (with_reducible rfl)
                                      simp only [Act.put, List.setIfInBounds_toArray, List.set_cons_zero, List.set_cons_succ]
                                      refine anyL_take (i := 17) (v := ?v17_64) (atS (atS (atS (atS (atS (atS (atS (atS (atS (atS (atS (atS (atS (atS (atS (atS (atS at0))))))))))))))))) (by kernel_rfl) (by kernel_rfl) (by kernel_rfl) (by kernel_rfl) (fun _ _ _ h => h) rfl ?y17_64 HS9 ?r17_64
                                      case y17_64 => intro wx hx; obtain ⟨⟨x0, x1, x2, x3, x4⟩, x5⟩ := hx; go_simp; try (with_reducible rfl)
                                      simp only [Act.put, List.setIfInBounds_toArray, List.set_cons_zero, List.set_cons_succ]
                                      refine anyL_done (by kernel_rfl) (NoPanic.normal ?_)
                                      try simp only [Act.put, List.setIfInBounds_toArray, List.set_cons_zero, List.set_cons_succ]
                                      have HSR : HeldSd b (k1 * 5) (p' : Int) (q' : Int) (i' : Int) (j' : Int) d4 w9.drew := HS9.1
                                      have hb9l : b < w9.heap.size := Nat.lt_of_lt_of_le hbl s9
                                      clear HS9
                                      go_wp2
                                      refine region_anyL (HeldSd b (k1 * 5) (p' : Int) (q' : Int) (i' : Int) (j' : Int) d4) 1000 (by kernel_rfl) ?_
                                      refine anyL_take (i := 0) (v := ?v0_65) at0 (by kernel_rfl) (by kernel_rfl) (by kernel_rfl) (by kernel_rfl) (fun _ _ _ h => h) rfl ?y0_65 HSR ?r0_65
                                      case y0_65 => intro wx hx; obtain ⟨x0, x1, x2, x3, x4⟩ := hx; go_simp; try (with_reducible rfl)
                                      simp only [Act.put, List.setIfInBounds_toArray, List.set_cons_zero, List.set_cons_succ]
                                      refine anyL_take (i := 1) (v := ?v1_66) (atS at0) (by kernel_rfl) (by kernel_rfl) (by kernel_rfl) (by kernel_rfl) (fun _ _ _ h => h) rfl ?y1_66 HSR ?r1_66
                                      case y1_66 => intro wx hx; obtain ⟨x0, x1, x2, x3, x4⟩ := hx; go_simp; try (with_reducible rfl)
                                      simp only [Act.put, List.setIfInBounds_toArray, List.set_cons_zero, List.set_cons_succ]
                                      refine anyL_take (i := 2) (v := ?v2_67) (atS (atS at0)) (by kernel_rfl) (by kernel_rfl) (by kernel_rfl) (by kernel_rfl) (fun _ _ _ h => h) rfl ?y2_67 HSR ?r2_67
                                      case y2_67 => intro wx hx; obtain ⟨x0, x1, x2, x3, x4⟩ := hx; go_simp; try (with_reducible rfl)
                                      simp only [Act.put, List.setIfInBounds_toArray, List.set_cons_zero, List.set_cons_succ]
                                      refine anyL_take (i := 3) (v := ?v3_68) (atS (atS (atS at0))) (by kernel_rfl) (by kernel_rfl) (by kernel_rfl) (by kernel_rfl) (fun _ _ _ h => h) rfl ?y3_68 HSR ?r3_68
                                      case y3_68 => intro wx hx; obtain ⟨x0, x1, x2, x3, x4⟩ := hx; go_simp; try (with_reducible rfl)
                                      simp only [Act.put, List.setIfInBounds_toArray, List.set_cons_zero, List.set_cons_succ]
                                      refine anyL_take (i := 4) (v := ?v4_69) (atS (atS (atS (atS at0)))) (by kernel_rfl) (by kernel_rfl) (by kernel_rfl) (by kernel_rfl) (fun _ _ _ h => h) rfl ?y4_69 HSR ?r4_69
                                      case y4_69 => intro wx hx; obtain ⟨x0, x1, x2, x3, x4⟩ := hx; go_simp; try (with_reducible rfl)
                                      simp only [Act.put, List.setIfInBounds_toArray, List.set_cons_zero, List.set_cons_succ]
                                      refine anyL_take (i := 5) (v := ?v5_70) (atS (atS (atS (atS (atS at0))))) (by kernel_rfl) (by kernel_rfl) (by kernel_rfl) (by kernel_rfl) (fun _ _ _ h => h) rfl ?y5_70 HSR ?r5_70
                                      case y5_70 => intro wx hx; obtain ⟨x0, x1, x2, x3, x4⟩ := hx; go_simp; try (with_reducible rfl)
                                      simp only [Act.put, List.setIfInBounds_toArray, List.set_cons_zero, List.set_cons_succ]
                                      refine anyL_take (i := 6) (v := ?v6_71) (atS (atS (atS (atS (atS (atS at0)))))) (by kernel_rfl) (by kernel_rfl) (by kernel_rfl) (by kernel_rfl) (fun _ _ _ h => h) rfl ?y6_71 HSR ?r6_71
                                      case y6_71 => intro wx hx; obtain ⟨x0, x1, x2, x3, x4⟩ := hx; go_simp; try (with_reducible rfl)
                                      simp only [Act.put, List.setIfInBounds_toArray, List.set_cons_zero, List.set_cons_succ]
                                      refine anyL_take (i := 8) (v := ?v8_72) (atS (atS (atS (atS (atS (atS (atS (atS at0)))))))) (by kernel_rfl) (by kernel_rfl) (by kernel_rfl) (by kernel_rfl) (fun _ _ _ h => h) rfl ?y8_72 HSR ?r8_72
                                      case y8_72 => intro wx hx; obtain ⟨x0, x1, x2, x3, x4⟩ := hx; go_simp; try (with_reducible rfl)
                                      simp only [Act.put, List.setIfInBounds_toArray, List.set_cons_zero, List.set_cons_succ]
                                      refine anyL_take (i := 9) (v := ?v9_73) (atS (atS (atS (atS (atS (atS (atS (atS (atS at0))))))))) (by kernel_rfl) (by kernel_rfl) (by kernel_rfl) (by kernel_rfl) (fun _ _ _ h => h) rfl ?y9_73 HSR ?r9_73
                                      case y9_73 => intro wx hx; obtain ⟨x0, x1, x2, x3, x4⟩ := hx; go_simp; try (with_reducible rfl)
                                      simp only [Act.put, List.setIfInBounds_toArray, List.set_cons_zero, List.set_cons_succ]
                                      refine anyL_take (i := 10) (v := ?v10_74) (atS (atS (atS (atS (atS (atS (atS (atS (atS (atS at0)))))))))) (by kernel_rfl) (by kernel_rfl) (by kernel_rfl) (by kernel_rfl) (fun _ _ _ h => h) rfl ?y10_74 HSR ?r10_74
                                      case y10_74 => intro wx hx; obtain ⟨x0, x1, x2, x3, x4⟩ := hx; go_simp; try (with_reducible rfl)
                                      simp only [Act.put, List.setIfInBounds_toArray, List.set_cons_zero, List.set_cons_succ]
                                      refine anyL_take (i := 11) (v := ?v11_75) (atS (atS (atS (atS (atS (atS (atS (atS (atS (atS (atS at0))))))))))) (by kernel_rfl) (by kernel_rfl) (by kernel_rfl) (by kernel_rfl) (fun _ _ _ h => h) rfl ?y11_75 HSR ?r11_75
                                      case y11_75 => intro wx hx; obtain ⟨x0, x1, x2, x3, x4⟩ := hx; go_simp; try (with_reducible rfl)
                                      simp only [Act.put, List.setIfInBounds_toArray, List.set_cons_zero, List.set_cons_succ]
                                      refine anyL_take (i := 12) (v := ?v12_76) (atS (atS (atS (atS (atS (atS (atS (atS (atS (atS (atS (atS at0)))))))))))) (by kernel_rfl) (by kernel_rfl) (by kernel_rfl) (by kernel_rfl) (fun _ _ _ h => h) rfl ?y12_76 HSR ?r12_76
                                      case y12_76 => intro wx hx; obtain ⟨x0, x1, x2, x3, x4⟩ := hx; go_simp; try (with_reducible rfl)
                                      simp only [Act.put, List.setIfInBounds_toArray, List.set_cons_zero, List.set_cons_succ]
                                      refine anyL_take (i := 13) (v := ?v13_77) (atS (atS (atS (atS (atS (atS (atS (atS (atS (atS (atS (atS (atS at0))))))))))))) (by kernel_rfl) (by kernel_rfl) (by kernel_rfl) (by kernel_rfl) (fun _ _ _ h => h) rfl ?y13_77 HSR ?r13_77
                                      case y13_77 => intro wx hx; obtain ⟨x0, x1, x2, x3, x4⟩ := hx; go_simp; try (with_reducible rfl)
                                      simp only [Act.put, List.setIfInBounds_toArray, List.set_cons_zero, List.set_cons_succ]
                                      refine anyL_take (i := 14) (v := ?v14_78) (atS (atS (atS (atS (atS (atS (atS (atS (atS (atS (atS (atS (atS (atS at0)))))))))))))) (by kernel_rfl) (by kernel_rfl) (by kernel_rfl) (by kernel_rfl) (fun _ _ _ h => h) rfl ?y14_78 HSR ?r14_78
                                      case y14_78 => intro wx hx; obtain ⟨x0, x1, x2, x3, x4⟩ := hx; go_simp; try (with_reducible rfl)
                                      simp only [Act.put, List.setIfInBounds_toArray, List.set_cons_zero, List.set_cons_succ]
                                      refine anyL_one (i := 7) (atS (atS (atS (atS (atS (atS (atS at0))))))) (by kernel_rfl) rfl (fun K hK => ?_)
                                      go_simp
                                      refine (at_ix p' q' i' j' jx HT9.out.drew (by omega) (by omega) (by omega) (by omega) (by omega) (by omega) (by omega) HJ0.out).mono ?_
                                      rintro e w10 ⟨rfl, hb10⟩
                                      have hb10' := below_undrewX hb10
                                      have HS10 : HeldSd b (k1 * 5) (p' : Int) (q' : Int) (i' : Int) (j' : Int) d4 w10 := HeldSd.later HSR hb10 hb9l
                                      have HT10 := hidP (HT9.out.later hb10')
                                      have HO10 := hidP (OwnD.later HO9.out hb10')
                                      have t10 := num_cell HT10.out.t (j := jx) (by rw [hlen8]; exact hjl)
                                      have f10 := HT10.out.t.fz jx
                                      have HS11 : HeldSd b (k1 * 5) (p' : Int) (q' : Int) (i' : Int) (j' : Int) d4 (w10.setCell ⟨w.heap.size + 5, jx, none⟩ (.int .i64 (c + d4))) := HeldSd.set HS10 (by omega) _
                                      clear hb10 hb10' HSR
                                      refine hK _ _ (.inr HS10) ?_
                                      try simp only [Act.put, List.setIfInBounds_toArray, List.set_cons_zero, List.set_cons_succ]
                                      refine anyL_one (i := 15) (atS (atS (atS (atS (atS (atS (atS (atS (atS (atS (atS (atS (atS (atS (atS at0))))))))))))))) (by kernel_rfl) rfl (fun K hK => ?_)
                                      go_simp
                                      refine hK _ _ (.inr HS10) ?_
                                      try simp only [Act.put, List.setIfInBounds_toArray, List.set_cons_zero, List.set_cons_succ]
                                      refine anyL_one (i := 16) (atS (atS (atS (atS (atS (atS (atS (atS (atS (atS (atS (atS (atS (atS (atS (atS at0)))))))))))))))) (by kernel_rfl) rfl (fun K hK => ?_)
                                      go_simp
                                      refine hK _ _ (.inr HS11) (anyL_done (by kernel_rfl) (NoPanic.normal ?_))
                                      try simp only [Act.put, List.setIfInBounds_toArray, List.set_cons_zero, List.set_cons_succ]
                                      clear HS10 HS11 t10 f10
                                      go_wp2
                                      go_roundw
                                      case rel =>
                                        have HT11 := hidP (HT10.out.set jx (c + d4))
                                        have HO11 : Hid (OwnD (w10.setCell ⟨w.heap.size + 5, jx, none⟩ (.int .i64 (c + d4))) (w.heap.size + 6) (.slice (some ⟨b, 0, none⟩) m7 c7) (sdL (el ma.2 p).2 (el mb.2 q).2 (p, q, i, j) x z)) := OwnD.set HO10.out (by show w.heap.size + 5 < w.heap.size + 6; omega) _
                                        first
                                          | exact ⟨true, cs8.set jx (c + d4), k1 + 1, rfl, by go_num, by omega, HT11, HSN, HLN, HO11⟩
                                          | exact ⟨cs8.set jx (c + d4), k1 + 1, by go_num, by omega, HT11, HSN, HLN, HO11⟩
                                      case measure => simp [intOf]; omega
                                    · have HSN := hidP (HSKP.out hlt)
                                      clear HSKP HPUT HLPUT hsc
                                      have HS1 : HeldSt b (k1 * 5) (p' : Int) (q' : Int) (i' : Int) (j' : Int) d4 (w.heap.size + 5) jx y w8.drew := ⟨HSC, t8⟩
                                      go_wp2
                                      refine region_anyL (HeldSt b (k1 * 5) (p' : Int) (q' : Int) (i' : Int) (j' : Int) d4 (w.heap.size + 5) jx y) 1000 (by kernel_rfl) ?_
                                      refine anyL_take (i := 0) (v := ?v0_79) at0 (by kernel_rfl) (by kernel_rfl) (by kernel_rfl) (by kernel_rfl) (fun _ _ _ h => h) rfl ?y0_79 HS1 ?r0_79
                                      case y0_79 => intro wx hx; obtain ⟨⟨x0, x1, x2, x3, x4⟩, x5⟩ := hx; go_simp; try (with_reducible rfl)
                                      simp only [Act.put, List.setIfInBounds_toArray, List.set_cons_zero, List.set_cons_succ]
                                      refine anyL_take (i := 1) (v := ?v1_80) (atS at0) (by kernel_rfl) (by kernel_rfl) (by kernel_rfl) (by kernel_rfl) (fun _ _ _ h => h) rfl ?y1_80 HS1 ?r1_80
                                      case y1_80 => intro wx hx; obtain ⟨⟨x0, x1, x2, x3, x4⟩, x5⟩ := hx; go_simp; try (with_reducible rfl)
                                      simp only [Act.put, List.setIfInBounds_toArray, List.set_cons_zero, List.set_cons_succ]
                                      refine anyL_take (i := 2) (v := ?v2_81) (atS (atS at0)) (by kernel_rfl) (by kernel_rfl) (by kernel_rfl) (by kernel_rfl) (fun _ _ _ h => h) rfl ?y2_81 HS1 ?r2_81
                                      case y2_81 => intro wx hx; obtain ⟨⟨x0, x1, x2, x3, x4⟩, x5⟩ := hx; go_simp; try (with_reducible rfl)
                                      simp only [Act.put, List.setIfInBounds_toArray, List.set_cons_zero, List.set_cons_succ]
                                      refine anyL_take (i := 3) (v := ?v3_82) (atS (atS (atS at0))) (by kernel_rfl) (by kernel_rfl) (by kernel_rfl) (by kernel_rfl) (fun _ _ _ h => h) rfl ?y3_82 HS1 ?r3_82
                                      case y3_82 => intro wx hx; obtain ⟨⟨x0, x1, x2, x3, x4⟩, x5⟩ := hx; go_simp; try (with_reducible rfl)
                                      simp only [Act.put, List.setIfInBounds_toArray, List.set_cons_zero, List.set_cons_succ]
                                      refine anyL_take (i := 4) (v := ?v4_83) (atS (atS (atS (atS at0)))) (by kernel_rfl) (by kernel_rfl) (by kernel_rfl) (by kernel_rfl) (fun _ _ _ h => h) rfl ?y4_83 HS1 ?r4_83
                                      case y4_83 => intro wx hx; obtain ⟨⟨x0, x1, x2, x3, x4⟩, x5⟩ := hx; go_simp; try (with_reducible rfl)
                                      simp only [Act.put, List.setIfInBounds_toArray, List.set_cons_zero, List.set_cons_succ]
                                      refine anyL_take (i := 5) (v := ?v5_84) (atS (atS (atS (atS (atS at0))))) (by kernel_rfl) (by kernel_rfl) (by kernel_rfl) (by kernel_rfl) (fun _ _ _ h => h) rfl ?y5_84 HS1 ?r5_84
                                      case y5_84 => intro wx hx; obtain ⟨⟨x0, x1, x2, x3, x4⟩, x5⟩ := hx; go_simp; try (with_reducible rfl)
                                      simp only [Act.put, List.setIfInBounds_toArray, List.set_cons_zero, List.set_cons_succ]
                                      refine anyL_take (i := 6) (v := ?v6_85) (atS (atS (atS (atS (atS (atS at0)))))) (by kernel_rfl) (by kernel_rfl) (by kernel_rfl) (by kernel_rfl) (fun _ _ _ h => h) rfl ?y6_85 HS1 ?r6_85
                                      case y6_85 => intro wx hx; obtain ⟨⟨x0, x1, x2, x3, x4⟩, x5⟩ := hx; go_simp; try (with_reducible rfl)
                                      simp only [Act.put, List.setIfInBounds_toArray, List.set_cons_zero, List.set_cons_succ]
                                      refine anyL_take (i := 7) (v := ?v7_86) (atS (atS (atS (atS (atS (atS (atS at0))))))) (by kernel_rfl) (by kernel_rfl) (by kernel_rfl) (by kernel_rfl) (fun _ _ _ h => h) rfl ?y7_86 HS1 ?r7_86
                                      case y7_86 => intro wx hx; obtain ⟨⟨x0, x1, x2, x3, x4⟩, x5⟩ := hx; go_simp; try (with_reducible rfl)
                                      simp only [Act.put, List.setIfInBounds_toArray, List.set_cons_zero, List.set_cons_succ]
                                      refine anyL_take (i := 8) (v := ?v8_87) (atS (atS (atS (atS (atS (atS (atS (atS at0)))))))) (by kernel_rfl) (by kernel_rfl) (by kernel_rfl) (by kernel_rfl) (fun _ _ _ h => h) rfl ?y8_87 HS1 ?r8_87
                                      case y8_87 => intro wx hx; obtain ⟨⟨x0, x1, x2, x3, x4⟩, x5⟩ := hx; go_simp; try (with_reducible rfl)
                                      simp only [Act.put, List.setIfInBounds_toArray, List.set_cons_zero, List.set_cons_succ]
                                      refine anyL_take (i := 9) (v := ?v9_88) (atS (atS (atS (atS (atS (atS (atS (atS (atS at0))))))))) (by kernel_rfl) (by kernel_rfl) (by kernel_rfl) (by kernel_rfl) (fun _ _ _ h => h) rfl ?y9_88 HS1 ?r9_88
                                      case y9_88 => intro wx hx; obtain ⟨⟨x0, x1, x2, x3, x4⟩, x5⟩ := hx; go_simp; try (with_reducible rfl)
                                      simp only [Act.put, List.setIfInBounds_toArray, List.set_cons_zero, List.set_cons_succ]
                                      refine anyL_take (i := 10) (v := ?v10_89) (atS (atS (atS (atS (atS (atS (atS (atS (atS (atS at0)))))))))) (by kernel_rfl) (by kernel_rfl) (by kernel_rfl) (by kernel_rfl) (fun _ _ _ h => h) rfl ?y10_89 HS1 ?r10_89
                                      case y10_89 => intro wx hx; obtain ⟨⟨x0, x1, x2, x3, x4⟩, x5⟩ := hx; go_simp; try (with_reducible rfl)
                                      simp only [Act.put, List.setIfInBounds_toArray, List.set_cons_zero, List.set_cons_succ]
                                      refine anyL_take (i := 11) (v := ?v11_90) (atS (atS (atS (atS (atS (atS (atS (atS (atS (atS (atS at0))))))))))) (by kernel_rfl) (by kernel_rfl) (by kernel_rfl) (by kernel_rfl) (fun _ _ _ h => h) rfl ?y11_90 HS1 ?r11_90
                                      case y11_90 => intro wx hx; obtain ⟨⟨x0, x1, x2, x3, x4⟩, x5⟩ := hx; go_simp; try (with_reducible rfl)
                                      simp only [Act.put, List.setIfInBounds_toArray, List.set_cons_zero, List.set_cons_succ]
                                      refine anyL_take (i := 12) (v := ?v12_91) (atS (atS (atS (atS (atS (atS (atS (atS (atS (atS (atS (atS at0)))))))))))) (by kernel_rfl) (by kernel_rfl) (by kernel_rfl) (by kernel_rfl) (fun _ _ _ h => h) rfl ?y12_91 HS1 ?r12_91
                                      case y12_91 => intro wx hx; obtain ⟨⟨x0, x1, x2, x3, x4⟩, x5⟩ := hx; go_simp; try (with_reducible rfl)
                                      simp only [Act.put, List.setIfInBounds_toArray, List.set_cons_zero, List.set_cons_succ]
                                      refine anyL_take (i := 13) (v := ?v13_92) (atS (atS (atS (atS (atS (atS (atS (atS (atS (atS (atS (atS (atS at0))))))))))))) (by kernel_rfl) (by kernel_rfl) (by kernel_rfl) (by kernel_rfl) (fun _ _ _ h => h) rfl ?y13_92 HS1 ?r13_92
                                      case y13_92 => intro wx hx; obtain ⟨⟨x0, x1, x2, x3, x4⟩, x5⟩ := hx; go_simp; try (with_reducible rfl)
                                      simp only [Act.put, List.setIfInBounds_toArray, List.set_cons_zero, List.set_cons_succ]
                                      refine anyL_one (i := 14) (atS (atS (atS (atS (atS (atS (atS (atS (atS (atS (atS (atS (atS (atS at0)))))))))))))) (by kernel_rfl) rfl (fun K hK => ?_)
                                      go_simp
                                      refine (at_ix p' q' i' j' jx hT8.out.drew (by omega) (by omega) (by omega) (by omega) (by omega) (by omega) (by omega) HJ0.out).mono ?_
                                      rintro e w9 ⟨rfl, hb9⟩
                                      have hb9' := below_undrewX hb9
                                      have s9 := hb9'.size
                                      have HS9 : HeldSt b (k1 * 5) (p' : Int) (q' : Int) (i' : Int) (j' : Int) d4 (w.heap.size + 5) jx y w9 := ⟨HeldSd.later HSC hb9' hbl, (hb9'.cell (p := ⟨w.heap.size + 5, jx, none⟩) hT8.out.t.lt).trans t8⟩
                                      have HT9 := hidP (hT8.out.later hb9')
                                      have HO9 := hidP (OwnD.later hO8.out hb9')
                                      refine hK _ _ (.inr HS9) ?_
                                      try simp only [Act.put, List.setIfInBounds_toArray, List.set_cons_zero, List.set_cons_succ]
                                      clear HS1 hb9 hb9'
                                      refine anyL_take (i := 15) (v := ?v15_93) (atS (atS (atS (atS (atS (atS (atS (atS (atS (atS (atS (atS (atS (atS (atS at0))))))))))))))) (by kernel_rfl) (by kernel_rfl) (by kernel_rfl) (by kernel_rfl) (fun _ _ _ h => h) rfl ?y15_93 HS9 ?r15_93
                                      case y15_93 => intro wx hx; obtain ⟨⟨x0, x1, x2, x3, x4⟩, x5⟩ := hx; go_simp; try (with_reducible rfl)
                                      simp only [Act.put, List.setIfInBounds_toArray, List.set_cons_zero, List.set_cons_succ]
                                      refine anyL_take (i := 16) (v := ?v16_94) (atS (atS (atS (atS (atS (atS (atS (atS (atS (atS (atS (atS (atS (atS (atS (atS at0)))))))))))))))) (by kernel_rfl) (by kernel_rfl) (by kernel_rfl) (by kernel_rfl) (fun _ _ _ h => h) rfl ?y16_94 HS9 ?r16_94
                                      case y16_94 => intro wx hx; obtain ⟨⟨x0, x1, x2, x3, x4⟩, x5⟩ := hx; go_simp; try (with_reducible rfl)
                                      simp only [Act.put, List.setIfInBounds_toArray, List.set_cons_zero, List.set_cons_succ]
                                      refine anyL_take (i := 17) (v := ?v17_95) (atS (atS (atS (atS (atS (atS (atS (atS (atS (atS (atS (atS (atS (atS (atS (atS (atS at0))))))))))))))))) (by kernel_rfl) (by kernel_rfl) (by kernel_rfl) (by kernel_rfl) (fun _ _ _ h => h) rfl ?y17_95 HS9 ?r17_95
                                      case y17_95 => intro wx hx; obtain ⟨⟨x0, x1, x2, x3, x4⟩, x5⟩ := hx; go_simp; try (with_reducible rfl)
                                      simp only [Act.put, List.setIfInBounds_toArray, List.set_cons_zero, List.set_cons_succ]
                                      refine anyL_done (by kernel_rfl) (NoPanic.normal ?_)
                                      try simp only [Act.put, List.setIfInBounds_toArray, List.set_cons_zero, List.set_cons_succ]
                                      clear HS9
                                      go_wp2
                                      go_roundw
                                      case rel => exact ⟨ag8, cs8, k1 + 1, rfl, by go_num, by omega, HT9, HSN, hL8, HO9⟩
                                      case measure => simp [intOf]; omega
                                  · have k1i : ¬ (k1 : Int) < (m7 : Int) := by omega
                                    obtain rfl : k1 = m7 := by omega
                                    have HIN : Hid (InvT ma mb x z cs8 best' ag8 S0 (ixS nb X Z p q i (j + 1))) := by
                                      rw [ixS_s, HI0.out]
                                      refine hSt.out.inv.next (by rw [HNA.out]; exact hpn) (by rw [HNB.out]; exact hqn) (by rw [HXE.out]; exact hiX) (by rw [HZE.out]; exact hjZ) HIT.out (fun ha => ⟨hSt.out.done (by rw [HM7.out]; exact Nat.le_refl _) ha, ?_⟩)
                                      refine Go.Proofs.Ythcfkiinjcbajaa.Wt.EndS.of hES.out ?_
                                      have := hSt.out.cur
                                      rw [this, HIT.out]
                                      exact HC.out.symm
                                    clear hSt
                                    go_wp2
                                    go_roundw
                                    case rel => exact ⟨best', ag8, cs8, j + 1, rfl, rfl, by go_num, by omega, hT8, HIN, hL8⟩
                                    case measure => simp [intOf]; omega
                        · have j1 : ¬ (j : Int) ≤ (Z : Int) := by omega
                          obtain rfl : j = Z + 1 := by omega
                          rw [ixS_j] at hI
                          go_wp2
                          go_roundw
                          case rel => exact ⟨best, ag, cs, i + 1, rfl, rfl, by go_num, by omega, hT, hI, hLw⟩
                          case measure => simp [intOf]; omega
                    · have i1 : ¬ (i : Int) ≤ (X : Int) := by omega
                      obtain rfl : i = X + 1 := by omega
                      rw [ixS_i] at hI
                      go_wp2
                      go_roundw
                      case rel => exact ⟨best, ag, cs, q + 1, rfl, rfl, by go_num, by omega, hT, hI, hLw⟩
                      case measure => simp [intOf]; omega
                · have q1 : ¬ (q : Int) < (nb : Int) := by omega
                  obtain rfl : q = nb := by omega
                  rw [ixS_q] at hI
                  go_wp2
                  go_roundw
                  case rel => exact ⟨best, ag, cs, p + 1, rfl, rfl, by go_num, by omega, hT, hI, hLw⟩
                  case measure => simp [intOf]; omega
            · have p1 : ¬ (p : Int) < (na : Int) := by omega
              obtain rfl : p = na := by omega
              have HMN : Hid (tabSumT wr (w.heap.size + 5) = sumT cs) := tabSumT_of hT.out.t
              have HBD := hidP (And.intro hI.out.bst hI.out.bd)
              have HTB := hidP hI.out.tab
              have HSM := hidP (And.intro hI.out.sum hI.out.les)
              have HFN : Hid (ag = false → TogA ma mb x z best) := fun e => by
                subst e
                exact HFI.out _ _ _ _ hI.out (by rw [← HNN.out]; simp [ixS])
              clear hI
              go_wp2
              go_roundw
              case rel => exact ⟨best, ag, cs, rfl, rfl, hT, HTB, hLw, HBD, HFN⟩
              case measure =>
                have h1 := HMN.out
                have h2 := HMS.out
                have h3 := HSM.out
                cases ag with
                | false => simp only [boolNT, h1, h2]; omega
                | true => have h4 := h3.2 rfl; simp only [boolNT, h1, h2]; omega
end Go.Proofs.Ythcfkiinjcbajaa.Wt
