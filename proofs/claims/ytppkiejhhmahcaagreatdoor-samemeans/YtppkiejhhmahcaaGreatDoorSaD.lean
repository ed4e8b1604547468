/- Facts, joined. -/
import Derived.Test.YtppkiejhhmahcaaGreatDoorSaB
import Derived.Test.YtppkiejhhmahcaaGreatDoorSaC
set_option linter.unusedSimpArgs false
set_option linter.unusedVariables false
set_option maxHeartbeats 4000000
set_option maxRecDepth 100000
namespace Go.Proofs.YtppkiejhhmahcaaGreatDoor.Wt
open ChangeShapes WideShapes ChangeAt RowKit Pl
def Right (l:List St):Prop:=∀ j,j<l.length→(el l j).2.length≤400∧∀ i,i<(el l j).2.length→(Lit.int .i64 (el (el l j).2 i).1).wf=true∧(Lit.int .i64 (el (el l j).2 i).2.1).wf=true
theorem arcN_ge {l:List St}{j:Nat}(h:j<l.length):(el l j).2.length≤arcN l:=by
  induction l generalizing j with
  | nil=>simp at h
  | cons s l ih=>
    cases j with
    | zero=>rw [jjbj];simp[arcN]
    | succ j=>rw [jjbt];have:=ih (j:=j) (by simpa using h);simp only[arcN];omega
theorem wf_small {x:Int}(h0:0≤x)(h1:x≤1000000001):(Lit.int .i64 x).wf=true:=WalkArith.wf_i64 (by omega)
theorem right_of {z:Int}{l:List St}(h:faultM (z,l)=0):Right l:=fun j hj=>by
 have h1:=jjbv h hj;have h2:=jjae h;refine⟨Nat.le_trans (arcN_ge hj) h2.2,fun i hi=>?_⟩
 have h3:=List.all_eq_true.1 h1.2 _ (jjac hi);simp only[arcB,inB,Bool.and_eq_true,decide_eq_true_eq]at h3;exact⟨wf_small h3.1.1.1.1 (by omega),wf_small h3.1.1.2.1 (by omega)⟩
theorem jje7 (l:List St)(w:World)(hl:Right l):AskS 101 #[] (fun s=>onceB s.2) l w:=
 ⟨enters_of Tryz.func101 (by kernel_rfl) rfl,fun j hj W va hW hA=>hasOnce_any _ va _ W hA (hl j hj).1 (hl j hj).2 _ rfl⟩
theorem bits_ok (z:Int)(a:Option Addr)(cap:Nat)(l:List St)(w:World)(hM:Mach w (.agg #[.int .i64 z,.slice a l.length cap]) (z,l))(hok:okM (z,l))(hr:faultM (z,l)=0)(rA rF rC rS rP rE:Bool)
  (hA:l.all (fun s=>s.2.all accA)=rA) (hF:l.all (fun s=>s.2.all fullA)=rF) (hC:l.all (fun s=>onceB s.2)=rC) (hS:l.all (fun s=>sortB s.2)=rS) (hP:l.all (fun s=>s.2.all freeA)=rP) (hE:l.all freeS=rE):
  Calls Tryz.prog 49 #[.agg #[.int .i64 z,.slice a l.length cap]] w fun e w'=>e= .returned (.tuple #[.agg #[.bool rA,.bool rF,.bool (rF&&rC),.bool rS,.bool (rP&&rE)],.int .i64 0])∧Below w.heap.size w w':=by
 have HM:Hid (Mach w (.agg #[.int .i64 z,.slice a l.length cap]) (z,l)):=hM;have HK:Hid (okM (z,l)):=hok;have HF0:Hid (faultM (z,l)=0):=hr;have HR:Hid (Right l):=right_of hr;have H60:Hid (l.length≤60):=(jjae hr).1;have HL:Hid (∀ j,j<l.length→(el l j).2.length≤4398046511104):=fun j hj=>by have:=hok.2 j hj;simp only at this;omega
 have HA:Hid (l.all (fun s=>s.2.all accA)=rA):=hA;have HF:Hid (l.all (fun s=>s.2.all fullA)=rF):=hF;have HC:Hid (l.all (fun s=>onceB s.2)=rC):=hC;have HSo:Hid (l.all (fun s=>sortB s.2)=rS):=hS;have HFr:Hid (l.all (fun s=>s.2.all freeA)=rP):=hP;have HE:Hid (l.all freeS=rE):=hE;have hl:=hok.1;simp only at hl;clear hM hok hr hA hF hC hS hP hE;generalize hn:l.length=n at HM H60 hl ⊢
 have HN:Hid (l.length=n):=hn;clear hn;cases rF<;>cases rP
 ·go_enter Tryz.func49,Tryz.ntmps49
  go_wp2_with (first
   | (go_at_call 45;(with_reducible refine(jjal _ (z,l) _ (HM.out.later (B:=w.heap.size) (by go_grown) (Nat.le_refl _)) HK.out _ HF0.out).mono ?_);rintro e w0 ⟨rfl,hb⟩;obtain⟨s0,k0,k1,hb1⟩:=boxed2 hb (by simp);have c0:=k0.cell 0 (v:= .int .i64 z) rfl;have c1:=k0.cell 1 (v:= .slice a n cap) rfl;have HB0:Hid (Below w.heap.size w w0):=hb1;have J0:Hid (Blk w0 w.heap.size #[.int .i64 z,.slice a n cap] 24):=k0;have J1:Hid (Blk w0 (w.heap.size+1) #[.bool false,.bool false,.bool false,.bool false,.bool false] 83):=k1;clear hb hb1 k0 k1)
   | (go_at_call 97;(with_reducible refine(jjau _ (z,l) _ (HM.out.later HB0.out (Nat.le_refl _)) _ _ _ (jjev _) HK.out (by show l.length≤60;rw[HN.out];exact H60.out) _ HF.out).mono ?_);rintro e w1 ⟨rfl,hb⟩;have HB1:Hid (Below w.heap.size w w1):=HB0.out.trans (hb.mono HB0.out.size);have K0:Hid (Blk w1 w.heap.size #[.int .i64 z,.slice a n cap] 24):=J0.out.below hb (by omega);have K1:Hid (Blk w1 (w.heap.size+1) #[.bool false,.bool false,.bool false,.bool false,.bool false] 83):=J1.out.below hb (by omega);have s1:w.heap.size+2≤w1.heap.size:=Nat.le_trans s0 hb.size;clear hb))
  refine jjaf (HeldN w.heap.size z (.slice a n cap)) 1000 (by kernel_rfl) ?_
  have HS1:HeldN w.heap.size z (.slice a n cap) w1.drew:=⟨K0.out.cell 0 rfl,K0.out.cell 1 rfl⟩
  refine jjaa (v:=?v0_1) aZ0 ?y0_1 HS1 ?r0_1
  case y0_1=>intro wx hx;obtain⟨h1,h2⟩:=hx;go_simp;try (with_reducible rfl)
  simp only[Act.put,sA,sB,sC];refine jjaa (v:=?v2_2) aZ2 ?y2_2 HS1 ?r2_2
  case y2_2=>intro wx hx;obtain⟨h1,h2⟩:=hx;go_simp;try (with_reducible rfl)
  simp only[Act.put,sA,sB,sC];refine jjaa (v:=?v3_3) aZ3 ?y3_3 HS1 ?r3_3
  case y3_3=>intro wx hx;obtain⟨h1,h2⟩:=hx;go_simp;try (with_reducible rfl)
  simp only[Act.put,sA,sB,sC];refine jjaa (v:=?v8_4) aZ8 ?y8_4 HS1 ?r8_4
  case y8_4=>intro wx hx;obtain⟨h1,h2⟩:=hx;go_simp;try (with_reducible rfl)
  simp only[Act.put,sA,sB,sC];refine jjaa (v:=?v10_5) aZ10 ?y10_5 HS1 ?r10_5
  case y10_5=>intro wx hx;obtain⟨h1,h2⟩:=hx;go_simp;try (with_reducible rfl)
  simp only[Act.put,sA,sB,sC];refine jjab aZ1 (fun K hK=>?_)
  go_simp;refine(jjau _ (z,l) _ (HM.out.later HB1.out.drew (Nat.le_refl _)) _ _ _ (acc_ask _) HK.out (by show l.length≤60;rw[HN.out];exact H60.out) _ HA.out).mono ?_
  rintro e w2 ⟨rfl,hb2⟩
  have HL2:Below w1.heap.size w1 w2:=jjbr hb2;have HB2:Below w.heap.size w w2:=HB1.out.trans (HL2.mono HB1.out.size);have HS2:HeldN w.heap.size z (.slice a n cap) w2:=⟨(K0.out.below HL2 (by omega)).cell 0 rfl,(K0.out.below HL2 (by omega)).cell 1 rfl⟩
  refine hK _ _ (.inr HS2) ?_
  try simp only[Act.put,sA,sB,sC]
  refine jjaa (v:=?v4_6) aZ4 ?y4_6 HS2 ?r4_6
  case y4_6=>intro wx hx;obtain⟨h1,h2⟩:=hx;go_simp;try (with_reducible rfl)
  simp only[Act.put,sA,sB,sC];refine jjb5 (i:=5) aZ5 (by kernel_rfl) (by kernel_rfl) (by kernel_rfl) (by kernel_rfl) (fun _ _ _ h=>h) (by rfl) HS2 ?_
  try simp only[Act.put,sA,sB,sC]
  refine jjb5 (i:=6) aZ6 (by kernel_rfl) (by kernel_rfl) (by kernel_rfl) (by kernel_rfl) (fun _ _ _ h=>h) (by rfl) HS2 ?_
  try simp only[Act.put,sA,sB,sC]
  refine jjaa (v:=?v7_7) aZ7 ?y7_7 HS2 ?r7_7
  case y7_7=>intro wx hx;obtain⟨h1,h2⟩:=hx;go_simp;try (with_reducible rfl)
  simp only[Act.put,sA,sB,sC];refine jjab aZ9 (fun K hK=>?_)
  go_simp;refine(jjat _ (z,l) _ (HM.out.later HB2 (Nat.le_refl _)) _ _ _ (jjb7 l _ HL.out) (by show l.length≤60;rw[HN.out];exact H60.out) _ HSo.out).mono ?_
  rintro e w3 ⟨rfl,hb3⟩
  have HL3:Below w1.heap.size w1 w3:=HL2.trans (hb3.mono HL2.size);have HB3:Below w.heap.size w w3:=HB1.out.trans (HL3.mono HB1.out.size);have HS3:HeldN w.heap.size z (.slice a n cap) w3:=⟨(K0.out.below HL3 (by omega)).cell 0 rfl,(K0.out.below HL3 (by omega)).cell 1 rfl⟩
  refine hK _ _ (.inr HS3) ?_
  try simp only[Act.put,sA,sB,sC]
  refine jjab aZ11 (fun K hK=>?_)
  go_simp;refine(jjau _ (z,l) _ (HM.out.later HB3 (Nat.le_refl _)) _ _ _ (jjeu _) HK.out (by show l.length≤60;rw[HN.out];exact H60.out) _ HFr.out).mono ?_
  rintro e w4 ⟨rfl,hb4⟩
  have HL4:Below w1.heap.size w1 w4:=HL3.trans (hb4.mono HL3.size);have HB4:Below w.heap.size w w4:=HB1.out.trans (HL4.mono HB1.out.size);have HS4:HeldN w.heap.size z (.slice a n cap) w4:=⟨(K0.out.below HL4 (by omega)).cell 0 rfl,(K0.out.below HL4 (by omega)).cell 1 rfl⟩
  refine hK _ _ (.inr HS4) ?_
  try simp only[Act.put,sA,sB,sC]
  refine jjaa (v:=?v12_8) aZ12 ?y12_8 HS4 ?r12_8
  case y12_8=>intro wx hx;obtain⟨h1,h2⟩:=hx;go_simp;try (with_reducible rfl)
  simp only[Act.put,sA,sB,sC];refine jjb5 (i:=13) aZ13 (by kernel_rfl) (by kernel_rfl) (by kernel_rfl) (by kernel_rfl) (fun _ _ _ h=>h) (by rfl) HS4 ?_
  try simp only[Act.put,sA,sB,sC]
  refine jjb5 (i:=14) aZ14 (by kernel_rfl) (by kernel_rfl) (by kernel_rfl) (by kernel_rfl) (fun _ _ _ h=>h) (by rfl) HS4 ?_
  try simp only[Act.put,sA,sB,sC]
  refine jjaa (v:=?v15_9) aZ15 ?y15_9 HS4 ?r15_9
  case y15_9=>intro wx hx;obtain⟨h1,h2⟩:=hx;go_simp;try (with_reducible rfl)
  simp only[Act.put,sA,sB,sC];refine jjaa (v:=?v16_10) aZ16 ?y16_10 HS4 ?r16_10
  case y16_10=>intro wx hx;obtain⟨h1,h2⟩:=hx;go_simp;try (with_reducible rfl)
  simp only[Act.put,sA,sB,sC];have K3:=K1.out.below HL4 (by omega);have e0:=K3.cell 0 (v:= .bool false) rfl;have f0:=K3.fz 0;have e1:=K3.cell 1 (v:= .bool false) rfl;have f1:=K3.fz 1;have e2:=K3.cell 2 (v:= .bool false) rfl;have f2:=K3.fz 2;have e3:=K3.cell 3 (v:= .bool false) rfl;have f3:=K3.fz 3;have e4:=K3.cell 4 (v:= .bool false) rfl;have f4:=K3.fz 4;have q0:=HS4.1;have q1:=HS4.2
  refine jjab aZ17 (fun K hK=>?_)
  go_simp;refine hK _ _ (.inr ⟨by go_cell,by go_cell⟩) ?_
  try simp only[Act.put,sA,sB,sC]
  refine jjab aZ18 (fun K hK=>?_)
  go_simp;refine hK _ _ (.inr ⟨by go_cell,by go_cell⟩) (jjad (by kernel_rfl) (NoPanic.normal ?_))
  try simp only[Act.put,sA,sB,sC]
  go_wp2;exact bodyPost_ret (v:= .tuple #[.agg #[.bool rA,.bool false,.bool false,.bool rS,.bool false],.int .i64 0]) (by simp[results,Tryz.results49,go_sem, *]) rfl ⟨rfl,by (have h:=HB4);go_grown⟩
 ·go_enter Tryz.func49,Tryz.ntmps49
  go_wp2_with (first
   | (go_at_call 45;(with_reducible refine(jjal _ (z,l) _ (HM.out.later (B:=w.heap.size) (by go_grown) (Nat.le_refl _)) HK.out _ HF0.out).mono ?_);rintro e w0 ⟨rfl,hb⟩;obtain⟨s0,k0,k1,hb1⟩:=boxed2 hb (by simp);have c0:=k0.cell 0 (v:= .int .i64 z) rfl;have c1:=k0.cell 1 (v:= .slice a n cap) rfl;have HB0:Hid (Below w.heap.size w w0):=hb1;have J0:Hid (Blk w0 w.heap.size #[.int .i64 z,.slice a n cap] 24):=k0;have J1:Hid (Blk w0 (w.heap.size+1) #[.bool false,.bool false,.bool false,.bool false,.bool false] 83):=k1;clear hb hb1 k0 k1)
   | (go_at_call 97;(with_reducible refine(jjau _ (z,l) _ (HM.out.later HB0.out (Nat.le_refl _)) _ _ _ (jjev _) HK.out (by show l.length≤60;rw[HN.out];exact H60.out) _ HF.out).mono ?_);rintro e w1 ⟨rfl,hb⟩;have HB1:Hid (Below w.heap.size w w1):=HB0.out.trans (hb.mono HB0.out.size);have K0:Hid (Blk w1 w.heap.size #[.int .i64 z,.slice a n cap] 24):=J0.out.below hb (by omega);have K1:Hid (Blk w1 (w.heap.size+1) #[.bool false,.bool false,.bool false,.bool false,.bool false] 83):=J1.out.below hb (by omega);have s1:w.heap.size+2≤w1.heap.size:=Nat.le_trans s0 hb.size;clear hb))
  refine jjaf (HeldN w.heap.size z (.slice a n cap)) 1000 (by kernel_rfl) ?_
  have HS1:HeldN w.heap.size z (.slice a n cap) w1.drew:=⟨K0.out.cell 0 rfl,K0.out.cell 1 rfl⟩
  refine jjaa (v:=?v0_11) aZ0 ?y0_11 HS1 ?r0_11
  case y0_11=>intro wx hx;obtain⟨h1,h2⟩:=hx;go_simp;try (with_reducible rfl)
  simp only[Act.put,sA,sB,sC];refine jjaa (v:=?v2_12) aZ2 ?y2_12 HS1 ?r2_12
  case y2_12=>intro wx hx;obtain⟨h1,h2⟩:=hx;go_simp;try (with_reducible rfl)
  simp only[Act.put,sA,sB,sC];refine jjaa (v:=?v3_13) aZ3 ?y3_13 HS1 ?r3_13
  case y3_13=>intro wx hx;obtain⟨h1,h2⟩:=hx;go_simp;try (with_reducible rfl)
  simp only[Act.put,sA,sB,sC];refine jjaa (v:=?v8_14) aZ8 ?y8_14 HS1 ?r8_14
  case y8_14=>intro wx hx;obtain⟨h1,h2⟩:=hx;go_simp;try (with_reducible rfl)
  simp only[Act.put,sA,sB,sC];refine jjaa (v:=?v10_15) aZ10 ?y10_15 HS1 ?r10_15
  case y10_15=>intro wx hx;obtain⟨h1,h2⟩:=hx;go_simp;try (with_reducible rfl)
  simp only[Act.put,sA,sB,sC];refine jjab aZ1 (fun K hK=>?_)
  go_simp;refine(jjau _ (z,l) _ (HM.out.later HB1.out.drew (Nat.le_refl _)) _ _ _ (acc_ask _) HK.out (by show l.length≤60;rw[HN.out];exact H60.out) _ HA.out).mono ?_
  rintro e w2 ⟨rfl,hb2⟩
  have HL2:Below w1.heap.size w1 w2:=jjbr hb2;have HB2:Below w.heap.size w w2:=HB1.out.trans (HL2.mono HB1.out.size);have HS2:HeldN w.heap.size z (.slice a n cap) w2:=⟨(K0.out.below HL2 (by omega)).cell 0 rfl,(K0.out.below HL2 (by omega)).cell 1 rfl⟩
  refine hK _ _ (.inr HS2) ?_
  try simp only[Act.put,sA,sB,sC]
  refine jjaa (v:=?v4_16) aZ4 ?y4_16 HS2 ?r4_16
  case y4_16=>intro wx hx;obtain⟨h1,h2⟩:=hx;go_simp;try (with_reducible rfl)
  simp only[Act.put,sA,sB,sC];refine jjb5 (i:=5) aZ5 (by kernel_rfl) (by kernel_rfl) (by kernel_rfl) (by kernel_rfl) (fun _ _ _ h=>h) (by rfl) HS2 ?_
  try simp only[Act.put,sA,sB,sC]
  refine jjb5 (i:=6) aZ6 (by kernel_rfl) (by kernel_rfl) (by kernel_rfl) (by kernel_rfl) (fun _ _ _ h=>h) (by rfl) HS2 ?_
  try simp only[Act.put,sA,sB,sC]
  refine jjaa (v:=?v7_17) aZ7 ?y7_17 HS2 ?r7_17
  case y7_17=>intro wx hx;obtain⟨h1,h2⟩:=hx;go_simp;try (with_reducible rfl)
  simp only[Act.put,sA,sB,sC];refine jjab aZ9 (fun K hK=>?_)
  go_simp;refine(jjat _ (z,l) _ (HM.out.later HB2 (Nat.le_refl _)) _ _ _ (jjb7 l _ HL.out) (by show l.length≤60;rw[HN.out];exact H60.out) _ HSo.out).mono ?_
  rintro e w3 ⟨rfl,hb3⟩
  have HL3:Below w1.heap.size w1 w3:=HL2.trans (hb3.mono HL2.size);have HB3:Below w.heap.size w w3:=HB1.out.trans (HL3.mono HB1.out.size);have HS3:HeldN w.heap.size z (.slice a n cap) w3:=⟨(K0.out.below HL3 (by omega)).cell 0 rfl,(K0.out.below HL3 (by omega)).cell 1 rfl⟩
  refine hK _ _ (.inr HS3) ?_
  try simp only[Act.put,sA,sB,sC]
  refine jjab aZ11 (fun K hK=>?_)
  go_simp;refine(jjau _ (z,l) _ (HM.out.later HB3 (Nat.le_refl _)) _ _ _ (jjeu _) HK.out (by show l.length≤60;rw[HN.out];exact H60.out) _ HFr.out).mono ?_
  rintro e w4 ⟨rfl,hb4⟩
  have HL4:Below w1.heap.size w1 w4:=HL3.trans (hb4.mono HL3.size);have HB4:Below w.heap.size w w4:=HB1.out.trans (HL4.mono HB1.out.size);have HS4:HeldN w.heap.size z (.slice a n cap) w4:=⟨(K0.out.below HL4 (by omega)).cell 0 rfl,(K0.out.below HL4 (by omega)).cell 1 rfl⟩
  refine hK _ _ (.inr HS4) ?_
  try simp only[Act.put,sA,sB,sC]
  refine jjaa (v:=?v12_18) aZ12 ?y12_18 HS4 ?r12_18
  case y12_18=>intro wx hx;obtain⟨h1,h2⟩:=hx;go_simp;try (with_reducible rfl)
  simp only[Act.put,sA,sB,sC];refine anyL_tg (v:=?v13_41) aZ13 ?y13_41 HS4 ?r13_41
  case y13_41=>intro wx hx;obtain⟨h1,h2⟩:=hx;go_simp;try (with_reducible rfl)
  simp only[Act.put,sA,sB,sC];refine jjdt (i:=14) aZ14 (by kernel_rfl) (by rfl) (fun K hK=>?_)
  go_simp;refine(jjat _ (z,l) _ (HM.out.later HB4 (Nat.le_refl _)) _ _ _ (ends_ask l _) (by show l.length≤60;rw[HN.out];exact H60.out) _ HE.out).mono ?_
  rintro e w5 ⟨rfl,hb5⟩
  have HL5:Below w1.heap.size w1 w5:=HL4.trans (hb5.mono HL4.size);have HB5:Below w.heap.size w w5:=HB1.out.trans (HL5.mono HB1.out.size);have HS5:HeldN w.heap.size z (.slice a n cap) w5:=⟨(K0.out.below HL5 (by omega)).cell 0 rfl,(K0.out.below HL5 (by omega)).cell 1 rfl⟩
  refine hK _ _ (.inr HS5) ?_
  try simp only[Act.put,sA,sB,sC]
  refine jjaa (v:=?v15_19) aZ15 ?y15_19 HS5 ?r15_19
  case y15_19=>intro wx hx;obtain⟨h1,h2⟩:=hx;go_simp;try (with_reducible rfl)
  simp only[Act.put,sA,sB,sC];refine jjaa (v:=?v16_20) aZ16 ?y16_20 HS5 ?r16_20
  case y16_20=>intro wx hx;obtain⟨h1,h2⟩:=hx;go_simp;try (with_reducible rfl)
  simp only[Act.put,sA,sB,sC];have K3:=K1.out.below HL5 (by omega);have e0:=K3.cell 0 (v:= .bool false) rfl;have f0:=K3.fz 0;have e1:=K3.cell 1 (v:= .bool false) rfl;have f1:=K3.fz 1;have e2:=K3.cell 2 (v:= .bool false) rfl;have f2:=K3.fz 2;have e3:=K3.cell 3 (v:= .bool false) rfl;have f3:=K3.fz 3;have e4:=K3.cell 4 (v:= .bool false) rfl;have f4:=K3.fz 4;have q0:=HS5.1;have q1:=HS5.2
  refine jjab aZ17 (fun K hK=>?_)
  go_simp;refine hK _ _ (.inr ⟨by go_cell,by go_cell⟩) ?_
  try simp only[Act.put,sA,sB,sC]
  refine jjab aZ18 (fun K hK=>?_)
  go_simp;refine hK _ _ (.inr ⟨by go_cell,by go_cell⟩) (jjad (by kernel_rfl) (NoPanic.normal ?_))
  try simp only[Act.put,sA,sB,sC]
  go_wp2;exact bodyPost_ret (v:= .tuple #[.agg #[.bool rA,.bool false,.bool false,.bool rS,.bool rE],.int .i64 0]) (by simp[results,Tryz.results49,go_sem, *]) rfl ⟨rfl,by (have h:=HB5);go_grown⟩
 ·go_enter Tryz.func49,Tryz.ntmps49
  go_wp2_with (first
   | (go_at_call 45;(with_reducible refine(jjal _ (z,l) _ (HM.out.later (B:=w.heap.size) (by go_grown) (Nat.le_refl _)) HK.out _ HF0.out).mono ?_);rintro e w0 ⟨rfl,hb⟩;obtain⟨s0,k0,k1,hb1⟩:=boxed2 hb (by simp);have c0:=k0.cell 0 (v:= .int .i64 z) rfl;have c1:=k0.cell 1 (v:= .slice a n cap) rfl;have HB0:Hid (Below w.heap.size w w0):=hb1;have J0:Hid (Blk w0 w.heap.size #[.int .i64 z,.slice a n cap] 24):=k0;have J1:Hid (Blk w0 (w.heap.size+1) #[.bool false,.bool false,.bool false,.bool false,.bool false] 83):=k1;clear hb hb1 k0 k1)
   | (go_at_call 97;(with_reducible refine(jjau _ (z,l) _ (HM.out.later HB0.out (Nat.le_refl _)) _ _ _ (jjev _) HK.out (by show l.length≤60;rw[HN.out];exact H60.out) _ HF.out).mono ?_);rintro e w1 ⟨rfl,hb⟩;have HB1:Hid (Below w.heap.size w w1):=HB0.out.trans (hb.mono HB0.out.size);have K0:Hid (Blk w1 w.heap.size #[.int .i64 z,.slice a n cap] 24):=J0.out.below hb (by omega);have K1:Hid (Blk w1 (w.heap.size+1) #[.bool false,.bool false,.bool false,.bool false,.bool false] 83):=J1.out.below hb (by omega);have s1:w.heap.size+2≤w1.heap.size:=Nat.le_trans s0 hb.size;clear hb))
  refine jjaf (HeldN w.heap.size z (.slice a n cap)) 1000 (by kernel_rfl) ?_
  have HS1:HeldN w.heap.size z (.slice a n cap) w1.drew:=⟨K0.out.cell 0 rfl,K0.out.cell 1 rfl⟩
  refine jjaa (v:=?v0_21) aZ0 ?y0_21 HS1 ?r0_21
  case y0_21=>intro wx hx;obtain⟨h1,h2⟩:=hx;go_simp;try (with_reducible rfl)
  simp only[Act.put,sA,sB,sC];refine jjaa (v:=?v2_22) aZ2 ?y2_22 HS1 ?r2_22
  case y2_22=>intro wx hx;obtain⟨h1,h2⟩:=hx;go_simp;try (with_reducible rfl)
  simp only[Act.put,sA,sB,sC];refine jjaa (v:=?v3_23) aZ3 ?y3_23 HS1 ?r3_23
  case y3_23=>intro wx hx;obtain⟨h1,h2⟩:=hx;go_simp;try (with_reducible rfl)
  simp only[Act.put,sA,sB,sC];refine jjaa (v:=?v8_24) aZ8 ?y8_24 HS1 ?r8_24
  case y8_24=>intro wx hx;obtain⟨h1,h2⟩:=hx;go_simp;try (with_reducible rfl)
  simp only[Act.put,sA,sB,sC];refine jjaa (v:=?v10_25) aZ10 ?y10_25 HS1 ?r10_25
  case y10_25=>intro wx hx;obtain⟨h1,h2⟩:=hx;go_simp;try (with_reducible rfl)
  simp only[Act.put,sA,sB,sC];refine jjab aZ1 (fun K hK=>?_)
  go_simp;refine(jjau _ (z,l) _ (HM.out.later HB1.out.drew (Nat.le_refl _)) _ _ _ (acc_ask _) HK.out (by show l.length≤60;rw[HN.out];exact H60.out) _ HA.out).mono ?_
  rintro e w2 ⟨rfl,hb2⟩
  have HL2:Below w1.heap.size w1 w2:=jjbr hb2;have HB2:Below w.heap.size w w2:=HB1.out.trans (HL2.mono HB1.out.size);have HS2:HeldN w.heap.size z (.slice a n cap) w2:=⟨(K0.out.below HL2 (by omega)).cell 0 rfl,(K0.out.below HL2 (by omega)).cell 1 rfl⟩
  refine hK _ _ (.inr HS2) ?_
  try simp only[Act.put,sA,sB,sC]
  refine jjaa (v:=?v4_26) aZ4 ?y4_26 HS2 ?r4_26
  case y4_26=>intro wx hx;obtain⟨h1,h2⟩:=hx;go_simp;try (with_reducible rfl)
  simp only[Act.put,sA,sB,sC];refine anyL_tg (v:=?v5_42) aZ5 ?y5_42 HS2 ?r5_42
  case y5_42=>intro wx hx;obtain⟨h1,h2⟩:=hx;go_simp;try (with_reducible rfl)
  simp only[Act.put,sA,sB,sC];refine jjdt (i:=6) aZ6 (by kernel_rfl) (by rfl) (fun K hK=>?_)
  go_simp;refine(jjat _ (z,l) _ (HM.out.later HB2 (Nat.le_refl _)) _ _ _ (jje7 l _ HR.out) (by show l.length≤60;rw[HN.out];exact H60.out) _ HC.out).mono ?_
  rintro e w3 ⟨rfl,hb3⟩
  have HL3:Below w1.heap.size w1 w3:=HL2.trans (hb3.mono HL2.size);have HB3:Below w.heap.size w w3:=HB1.out.trans (HL3.mono HB1.out.size);have HS3:HeldN w.heap.size z (.slice a n cap) w3:=⟨(K0.out.below HL3 (by omega)).cell 0 rfl,(K0.out.below HL3 (by omega)).cell 1 rfl⟩
  refine hK _ _ (.inr HS3) ?_
  try simp only[Act.put,sA,sB,sC]
  refine jjaa (v:=?v7_27) aZ7 ?y7_27 HS3 ?r7_27
  case y7_27=>intro wx hx;obtain⟨h1,h2⟩:=hx;go_simp;try (with_reducible rfl)
  simp only[Act.put,sA,sB,sC];refine jjab aZ9 (fun K hK=>?_)
  go_simp;refine(jjat _ (z,l) _ (HM.out.later HB3 (Nat.le_refl _)) _ _ _ (jjb7 l _ HL.out) (by show l.length≤60;rw[HN.out];exact H60.out) _ HSo.out).mono ?_
  rintro e w4 ⟨rfl,hb4⟩
  have HL4:Below w1.heap.size w1 w4:=HL3.trans (hb4.mono HL3.size);have HB4:Below w.heap.size w w4:=HB1.out.trans (HL4.mono HB1.out.size);have HS4:HeldN w.heap.size z (.slice a n cap) w4:=⟨(K0.out.below HL4 (by omega)).cell 0 rfl,(K0.out.below HL4 (by omega)).cell 1 rfl⟩
  refine hK _ _ (.inr HS4) ?_
  try simp only[Act.put,sA,sB,sC]
  refine jjab aZ11 (fun K hK=>?_)
  go_simp;refine(jjau _ (z,l) _ (HM.out.later HB4 (Nat.le_refl _)) _ _ _ (jjeu _) HK.out (by show l.length≤60;rw[HN.out];exact H60.out) _ HFr.out).mono ?_
  rintro e w5 ⟨rfl,hb5⟩
  have HL5:Below w1.heap.size w1 w5:=HL4.trans (hb5.mono HL4.size);have HB5:Below w.heap.size w w5:=HB1.out.trans (HL5.mono HB1.out.size);have HS5:HeldN w.heap.size z (.slice a n cap) w5:=⟨(K0.out.below HL5 (by omega)).cell 0 rfl,(K0.out.below HL5 (by omega)).cell 1 rfl⟩
  refine hK _ _ (.inr HS5) ?_
  try simp only[Act.put,sA,sB,sC]
  refine jjaa (v:=?v12_28) aZ12 ?y12_28 HS5 ?r12_28
  case y12_28=>intro wx hx;obtain⟨h1,h2⟩:=hx;go_simp;try (with_reducible rfl)
  simp only[Act.put,sA,sB,sC];refine jjb5 (i:=13) aZ13 (by kernel_rfl) (by kernel_rfl) (by kernel_rfl) (by kernel_rfl) (fun _ _ _ h=>h) (by rfl) HS5 ?_
  try simp only[Act.put,sA,sB,sC]
  refine jjb5 (i:=14) aZ14 (by kernel_rfl) (by kernel_rfl) (by kernel_rfl) (by kernel_rfl) (fun _ _ _ h=>h) (by rfl) HS5 ?_
  try simp only[Act.put,sA,sB,sC]
  refine jjaa (v:=?v15_29) aZ15 ?y15_29 HS5 ?r15_29
  case y15_29=>intro wx hx;obtain⟨h1,h2⟩:=hx;go_simp;try (with_reducible rfl)
  simp only[Act.put,sA,sB,sC];refine jjaa (v:=?v16_30) aZ16 ?y16_30 HS5 ?r16_30
  case y16_30=>intro wx hx;obtain⟨h1,h2⟩:=hx;go_simp;try (with_reducible rfl)
  simp only[Act.put,sA,sB,sC];have K3:=K1.out.below HL5 (by omega);have e0:=K3.cell 0 (v:= .bool false) rfl;have f0:=K3.fz 0;have e1:=K3.cell 1 (v:= .bool false) rfl;have f1:=K3.fz 1;have e2:=K3.cell 2 (v:= .bool false) rfl;have f2:=K3.fz 2;have e3:=K3.cell 3 (v:= .bool false) rfl;have f3:=K3.fz 3;have e4:=K3.cell 4 (v:= .bool false) rfl;have f4:=K3.fz 4;have q0:=HS5.1;have q1:=HS5.2
  refine jjab aZ17 (fun K hK=>?_)
  go_simp;refine hK _ _ (.inr ⟨by go_cell,by go_cell⟩) ?_
  try simp only[Act.put,sA,sB,sC]
  refine jjab aZ18 (fun K hK=>?_)
  go_simp;refine hK _ _ (.inr ⟨by go_cell,by go_cell⟩) (jjad (by kernel_rfl) (NoPanic.normal ?_))
  try simp only[Act.put,sA,sB,sC]
  go_wp2;exact bodyPost_ret (v:= .tuple #[.agg #[.bool rA,.bool true,.bool rC,.bool rS,.bool false],.int .i64 0]) (by simp[results,Tryz.results49,go_sem, *]) rfl ⟨rfl,by (have h:=HB5);go_grown⟩
 ·go_enter Tryz.func49,Tryz.ntmps49
  go_wp2_with (first
   | (go_at_call 45;(with_reducible refine(jjal _ (z,l) _ (HM.out.later (B:=w.heap.size) (by go_grown) (Nat.le_refl _)) HK.out _ HF0.out).mono ?_);rintro e w0 ⟨rfl,hb⟩;obtain⟨s0,k0,k1,hb1⟩:=boxed2 hb (by simp);have c0:=k0.cell 0 (v:= .int .i64 z) rfl;have c1:=k0.cell 1 (v:= .slice a n cap) rfl;have HB0:Hid (Below w.heap.size w w0):=hb1;have J0:Hid (Blk w0 w.heap.size #[.int .i64 z,.slice a n cap] 24):=k0;have J1:Hid (Blk w0 (w.heap.size+1) #[.bool false,.bool false,.bool false,.bool false,.bool false] 83):=k1;clear hb hb1 k0 k1)
   | (go_at_call 97;(with_reducible refine(jjau _ (z,l) _ (HM.out.later HB0.out (Nat.le_refl _)) _ _ _ (jjev _) HK.out (by show l.length≤60;rw[HN.out];exact H60.out) _ HF.out).mono ?_);rintro e w1 ⟨rfl,hb⟩;have HB1:Hid (Below w.heap.size w w1):=HB0.out.trans (hb.mono HB0.out.size);have K0:Hid (Blk w1 w.heap.size #[.int .i64 z,.slice a n cap] 24):=J0.out.below hb (by omega);have K1:Hid (Blk w1 (w.heap.size+1) #[.bool false,.bool false,.bool false,.bool false,.bool false] 83):=J1.out.below hb (by omega);have s1:w.heap.size+2≤w1.heap.size:=Nat.le_trans s0 hb.size;clear hb))
  refine jjaf (HeldN w.heap.size z (.slice a n cap)) 1000 (by kernel_rfl) ?_
  have HS1:HeldN w.heap.size z (.slice a n cap) w1.drew:=⟨K0.out.cell 0 rfl,K0.out.cell 1 rfl⟩
  refine jjaa (v:=?v0_31) aZ0 ?y0_31 HS1 ?r0_31
  case y0_31=>intro wx hx;obtain⟨h1,h2⟩:=hx;go_simp;try (with_reducible rfl)
  simp only[Act.put,sA,sB,sC];refine jjaa (v:=?v2_32) aZ2 ?y2_32 HS1 ?r2_32
  case y2_32=>intro wx hx;obtain⟨h1,h2⟩:=hx;go_simp;try (with_reducible rfl)
  simp only[Act.put,sA,sB,sC];refine jjaa (v:=?v3_33) aZ3 ?y3_33 HS1 ?r3_33
  case y3_33=>intro wx hx;obtain⟨h1,h2⟩:=hx;go_simp;try (with_reducible rfl)
  simp only[Act.put,sA,sB,sC];refine jjaa (v:=?v8_34) aZ8 ?y8_34 HS1 ?r8_34
  case y8_34=>intro wx hx;obtain⟨h1,h2⟩:=hx;go_simp;try (with_reducible rfl)
  simp only[Act.put,sA,sB,sC];refine jjaa (v:=?v10_35) aZ10 ?y10_35 HS1 ?r10_35
  case y10_35=>intro wx hx;obtain⟨h1,h2⟩:=hx;go_simp;try (with_reducible rfl)
  simp only[Act.put,sA,sB,sC];refine jjab aZ1 (fun K hK=>?_)
  go_simp;refine(jjau _ (z,l) _ (HM.out.later HB1.out.drew (Nat.le_refl _)) _ _ _ (acc_ask _) HK.out (by show l.length≤60;rw[HN.out];exact H60.out) _ HA.out).mono ?_
  rintro e w2 ⟨rfl,hb2⟩
  have HL2:Below w1.heap.size w1 w2:=jjbr hb2;have HB2:Below w.heap.size w w2:=HB1.out.trans (HL2.mono HB1.out.size);have HS2:HeldN w.heap.size z (.slice a n cap) w2:=⟨(K0.out.below HL2 (by omega)).cell 0 rfl,(K0.out.below HL2 (by omega)).cell 1 rfl⟩
  refine hK _ _ (.inr HS2) ?_
  try simp only[Act.put,sA,sB,sC]
  refine jjaa (v:=?v4_36) aZ4 ?y4_36 HS2 ?r4_36
  case y4_36=>intro wx hx;obtain⟨h1,h2⟩:=hx;go_simp;try (with_reducible rfl)
  simp only[Act.put,sA,sB,sC];refine anyL_tg (v:=?v5_43) aZ5 ?y5_43 HS2 ?r5_43
  case y5_43=>intro wx hx;obtain⟨h1,h2⟩:=hx;go_simp;try (with_reducible rfl)
  simp only[Act.put,sA,sB,sC];refine jjdt (i:=6) aZ6 (by kernel_rfl) (by rfl) (fun K hK=>?_)
  go_simp;refine(jjat _ (z,l) _ (HM.out.later HB2 (Nat.le_refl _)) _ _ _ (jje7 l _ HR.out) (by show l.length≤60;rw[HN.out];exact H60.out) _ HC.out).mono ?_
  rintro e w3 ⟨rfl,hb3⟩
  have HL3:Below w1.heap.size w1 w3:=HL2.trans (hb3.mono HL2.size);have HB3:Below w.heap.size w w3:=HB1.out.trans (HL3.mono HB1.out.size);have HS3:HeldN w.heap.size z (.slice a n cap) w3:=⟨(K0.out.below HL3 (by omega)).cell 0 rfl,(K0.out.below HL3 (by omega)).cell 1 rfl⟩
  refine hK _ _ (.inr HS3) ?_
  try simp only[Act.put,sA,sB,sC]
  refine jjaa (v:=?v7_37) aZ7 ?y7_37 HS3 ?r7_37
  case y7_37=>intro wx hx;obtain⟨h1,h2⟩:=hx;go_simp;try (with_reducible rfl)
  simp only[Act.put,sA,sB,sC];refine jjab aZ9 (fun K hK=>?_)
  go_simp;refine(jjat _ (z,l) _ (HM.out.later HB3 (Nat.le_refl _)) _ _ _ (jjb7 l _ HL.out) (by show l.length≤60;rw[HN.out];exact H60.out) _ HSo.out).mono ?_
  rintro e w4 ⟨rfl,hb4⟩
  have HL4:Below w1.heap.size w1 w4:=HL3.trans (hb4.mono HL3.size);have HB4:Below w.heap.size w w4:=HB1.out.trans (HL4.mono HB1.out.size);have HS4:HeldN w.heap.size z (.slice a n cap) w4:=⟨(K0.out.below HL4 (by omega)).cell 0 rfl,(K0.out.below HL4 (by omega)).cell 1 rfl⟩
  refine hK _ _ (.inr HS4) ?_
  try simp only[Act.put,sA,sB,sC]
  refine jjab aZ11 (fun K hK=>?_)
  go_simp;refine(jjau _ (z,l) _ (HM.out.later HB4 (Nat.le_refl _)) _ _ _ (jjeu _) HK.out (by show l.length≤60;rw[HN.out];exact H60.out) _ HFr.out).mono ?_
  rintro e w5 ⟨rfl,hb5⟩
  have HL5:Below w1.heap.size w1 w5:=HL4.trans (hb5.mono HL4.size);have HB5:Below w.heap.size w w5:=HB1.out.trans (HL5.mono HB1.out.size);have HS5:HeldN w.heap.size z (.slice a n cap) w5:=⟨(K0.out.below HL5 (by omega)).cell 0 rfl,(K0.out.below HL5 (by omega)).cell 1 rfl⟩
  refine hK _ _ (.inr HS5) ?_
  try simp only[Act.put,sA,sB,sC]
  refine jjaa (v:=?v12_38) aZ12 ?y12_38 HS5 ?r12_38
  case y12_38=>intro wx hx;obtain⟨h1,h2⟩:=hx;go_simp;try (with_reducible rfl)
  simp only[Act.put,sA,sB,sC];refine anyL_tg (v:=?v13_44) aZ13 ?y13_44 HS5 ?r13_44
  case y13_44=>intro wx hx;obtain⟨h1,h2⟩:=hx;go_simp;try (with_reducible rfl)
  simp only[Act.put,sA,sB,sC];refine jjdt (i:=14) aZ14 (by kernel_rfl) (by rfl) (fun K hK=>?_)
  go_simp;refine(jjat _ (z,l) _ (HM.out.later HB5 (Nat.le_refl _)) _ _ _ (ends_ask l _) (by show l.length≤60;rw[HN.out];exact H60.out) _ HE.out).mono ?_
  rintro e w6 ⟨rfl,hb6⟩
  have HL6:Below w1.heap.size w1 w6:=HL5.trans (hb6.mono HL5.size);have HB6:Below w.heap.size w w6:=HB1.out.trans (HL6.mono HB1.out.size);have HS6:HeldN w.heap.size z (.slice a n cap) w6:=⟨(K0.out.below HL6 (by omega)).cell 0 rfl,(K0.out.below HL6 (by omega)).cell 1 rfl⟩
  refine hK _ _ (.inr HS6) ?_
  try simp only[Act.put,sA,sB,sC]
  refine jjaa (v:=?v15_39) aZ15 ?y15_39 HS6 ?r15_39
  case y15_39=>intro wx hx;obtain⟨h1,h2⟩:=hx;go_simp;try (with_reducible rfl)
  simp only[Act.put,sA,sB,sC];refine jjaa (v:=?v16_40) aZ16 ?y16_40 HS6 ?r16_40
  case y16_40=>intro wx hx;obtain⟨h1,h2⟩:=hx;go_simp;try (with_reducible rfl)
  simp only[Act.put,sA,sB,sC];have K3:=K1.out.below HL6 (by omega);have e0:=K3.cell 0 (v:= .bool false) rfl;have f0:=K3.fz 0;have e1:=K3.cell 1 (v:= .bool false) rfl;have f1:=K3.fz 1;have e2:=K3.cell 2 (v:= .bool false) rfl;have f2:=K3.fz 2;have e3:=K3.cell 3 (v:= .bool false) rfl;have f3:=K3.fz 3;have e4:=K3.cell 4 (v:= .bool false) rfl;have f4:=K3.fz 4;have q0:=HS6.1;have q1:=HS6.2
  refine jjab aZ17 (fun K hK=>?_)
  go_simp;refine hK _ _ (.inr ⟨by go_cell,by go_cell⟩) ?_
  try simp only[Act.put,sA,sB,sC]
  refine jjab aZ18 (fun K hK=>?_)
  go_simp;refine hK _ _ (.inr ⟨by go_cell,by go_cell⟩) (jjad (by kernel_rfl) (NoPanic.normal ?_))
  try simp only[Act.put,sA,sB,sC]
  go_wp2;exact bodyPost_ret (v:= .tuple #[.agg #[.bool rA,.bool true,.bool rC,.bool rS,.bool rE],.int .i64 0]) (by simp[results,Tryz.results49,go_sem, *]) rfl ⟨rfl,by (have h:=HB6);go_grown⟩
end Go.Proofs.YtppkiejhhmahcaaGreatDoor.Wt
