/- Facts, joined. -/
import Derived.Test.YtppkiejhhmahcaaGreatDoorSaO
set_option linter.unusedSimpArgs false
set_option linter.unusedVariables false
set_option maxHeartbeats 6400000
set_option maxRecDepth 100000
namespace Go.Proofs.YtppkiejhhmahcaaGreatDoor.Dw
open ChangeShapes WideShapes ChangeAt RowKit Pl Wt
theorem run_boolsD (n:Nat)(hn:n≤1000)(W:World):(Instr.makeSlice 72 (.int .i64 (n:Int)) (.int .i64 (n:Int))).run Tryz.prog W= .ok (.slice (some ⟨W.heap.size,0,none⟩) n n) (W.alloc (.cells ((List.replicate n false).map Value.bool).toArray 4)):=by
 obtain⟨i1,hi1,hy0,hy1,hy2⟩:=info_parts infoBool
 have h:=run_make (P:=Tryz.prog) W 72 4 i1 _ Tryz.underlying72 hi1 hy0 .i64 .i64 n n (by omega) (by omega) (by rw[hy2];omega) (by omega);rw[hy1,Int.toNat_natCast,made_bools]at h;exact h
theorem LstAt.made {w w1:World}{C N:Nat}{cs:List Int}(hC:Blk w1 C (cs.map (Value.int .i64)).toArray 3)(hb:Below w.heap.size w w1)(h0:w.heap.size≤C):
  LstAt w (((w1.alloc (.cells (Array.replicate N (Value.bool false)) 4)).alloc (.cells #[.slice (some ⟨w1.heap.size,0,none⟩) N N] 72)).alloc (.cells #[.slice none 0 0] 209)) C w1.heap.size (w1.heap.size+1) (w1.heap.size+1+1) N (.slice none 0 0) [] (List.replicate N false) cs:=by
 have k1:=Blk.made w1 (Array.replicate N (Value.bool false)) 4;have k2:=Blk.made (w1.alloc (.cells (Array.replicate N (Value.bool false)) 4)) #[.slice (some ⟨w1.heap.size,0,none⟩) N N] 72;have k3:=Blk.made ((w1.alloc (.cells (Array.replicate N (Value.bool false)) 4)).alloc (.cells #[.slice (some ⟨w1.heap.size,0,none⟩) N N] 72)) #[.slice none 0 0] 209;simp only[World.size_alloc]at k1 k2 k3
 have e:((List.replicate N false).map Value.bool).toArray=Array.replicate N (Value.bool false):=by simp
 have hs:=hb.size;refine⟨((hC.alloc _).alloc _).alloc _,by rw[e];exact(k1.alloc _).alloc _,k2.alloc _,k3,World.ownsRow_nil _ _ _ _,((hb.alloc hs _).alloc (by simp;omega) _).alloc (by simp;omega) _,h0,hC.lt,by omega,by omega,by simp⟩
def HeldL (G V E N p c:Nat)(w:World):Prop:=w.cell? ⟨G,0,none⟩=some (.int .i64 (p:Int))∧w.cell? ⟨G,1,none⟩=some (.int .i64 (c:Int))∧w.cell? ⟨V,0,none⟩=some (.slice (some ⟨E,0,none⟩) N N)
def HeldN (G T p c:Nat)(v:Value)(w:World):Prop:=w.cell? ⟨G,0,none⟩=some (.int .i64 (p:Int))∧w.cell? ⟨G,1,none⟩=some (.int .i64 (c:Int))∧w.cell? ⟨T,p,none⟩=some v
theorem blk_neD {w:World}{a b:Nat}{cs cs':Array Value}{t t':TypeId}(h1:Blk w a cs t)(h2:Blk w b cs' t')(ht:t≠t'):a≠b:=fun e=>by
 subst e;unfold Blk at h1 h2;rw[h1]at h2;simp at h2;exact ht h2.2
theorem cnt_less {bs:List Bool}{p:Nat}(hp:p<bs.length)(hf:el bs p=false):(bs.set p true).count false+1=bs.count false:=jje9 hp hf
theorem least_any {S:Nat→List Ar}{P:Nat→Nat→Prop}(N T:Nat)(vF:Value)(rows:List Value)(w:World)(hN:N≤60)(hS:StpR S N)(hP:∀ q c,q<N→(P q c↔RchD S N q c))(hF:Row 2 encD w vF (S N))(hT:T<w.heap.size)(hrow:∀ q,q<N→w.cell? ⟨T,q,none⟩=some (el rows q)∧Row 2 encD w (el rows q) (S q)):
  Calls Tryz.prog 143 #[vF,.slice (some ⟨T,0,none⟩) N N] w fun e w'=>LstRes (LstAns P N) w e w':=by
 have HS:=hidP hS;have HP:=hidP hP;have HRW:=hidP hrow;have HF:=hidP hF;have hmk:=jjdd N (by omega);have hmb:=run_boolsD N (by omega);have hta:=assert_way;clear hS hP hrow hF;obtain⟨C,hCe⟩:∃ C,C=w.heap.size:=⟨_,rfl⟩
 have HCE:=hidP hCe;clear hCe;go_enter Tryz.func143,Tryz.ntmps143;go_wp2;rw[← HCE.out];go_loopw [17] (fun i wr=>∃ (q:Nat) (cs:List Int),q≤N∧i= .int .i64 q∧Hid (cs.length=N∧∀ j,j<q→el cs j=1000000001)∧Hid (Blk wr C (cs.map (Value.int .i64)).toArray 3)∧Hid (Below w.heap.size w wr)) (fun i _=>N-(intOf i).toNat)
 case atStart=>
  refine⟨0,List.replicate N 0,Nat.zero_le _,rfl,⟨by simp,fun j hj=>absurd hj (by omega)⟩,?_,(Below.refl _ _).alloc (Nat.le_refl _) _⟩
  have h9:=Blk.made w ((List.replicate N (0:Int)).map (Value.int .i64)).toArray 3;rw[← HCE.out]at h9;simp only[List.map_replicate,List.toArray_replicate]at h9 ⊢;exact h9
 case round=>
  obtain⟨q,cs,hq,rfl,hc,hB,hb⟩:=hrel
  by_cases hqn:q<N
  ·have hq0:(0:Int)≤(q:Int):=by omega
   have hq1:(q:Int)<(N:Int):=by omega
   have y0:=jjba hB.out (j:=q) (by rw[hc.out.1];exact hqn);have y1:=hB.out.fz q;have HB2:Hid (Blk (wr.setCell ⟨C,q,none⟩ (.int .i64 1000000001)) C ((cs.set q 1000000001).map (Value.int .i64)).toArray 3):=by have h9:=hB.out.set q (.int .i64 1000000001);rw[jjcc]at h9;exact h9
   have HC2:Hid ((cs.set q 1000000001).length=N∧∀ j,j<q+1→el (cs.set q 1000000001) j=1000000001):=by
    refine⟨by rw[List.length_set];exact hc.out.1,fun j hj=>?_⟩
    rw[el_setT (by rw[hc.out.1];exact hqn)];split
    ·rfl
    ·exact hc.out.2 j (by omega)
   have HL2:Hid (Below w.heap.size w (wr.setCell ⟨C,q,none⟩ (.int .i64 1000000001))):=hb.out.setCell (p:=⟨C,q,none⟩) (by rw[HCE.out];exact Nat.le_refl _) _;go_wp2;go_roundw
   case rel=>exact ⟨q+1,cs.set q 1000000001,by omega,by go_num,HC2,HB2,HL2⟩
   case measure=>simp [intOf];omega
  ·have hnl:¬ (q:Int)<(N:Int):=by omega
   have hqe:q=N:=by omega
   subst hqe;obtain⟨w1,hw1⟩:∃ w1,w1=wr:=⟨_,rfl⟩
   subst hw1;have HT0:=hidP (LstAt.made (N:=q) hB.out hb.out (by rw[HCE.out];exact Nat.le_refl _));have HDC0:=hidP (DonC.start q hc.out.1 hc.out.2);have HP0:=hidP (put_any (D:=srcD q) w _ C w1.heap.size (w1.heap.size+1) (w1.heap.size+1+1) q q 0 _ vF [] _ cs HT0.out HS.out DijD.start (if_pos rfl) (DonB.start q) HeapW.nil (by simp) (Nat.le_refl _) HF.out hN (by omega));clear hc hB hb
   go_wp2_with (first
    | (go_at_call 172;(refine HP0.out.mono ?_);rintro e w2 ⟨rfl,v2,hs2,ht2,hd2,hh2,hl2,_⟩;have HT2:=hidP ht2;have HI2:Hid (DijD S q (srcD q) hs2 (fun _ _=>False) 0∧HeapW hs2 hs2.length∧(List.replicate q false).count false*401+hs2.length≤30000):=⟨hd2,hh2,by simp at hl2 ⊢;omega⟩;clear ht2 hd2 hh2 hl2))
   clear HP0 HT0;generalize hE:w1.heap.size=E at *;generalize hV:E+1=V at *;generalize hB:V+1=B at *;clear hE hV hB
   go_loopw [] (fun wr=>∃ (D:Nat→Option Nat) (hs:List Ar) (v:Value) (b:Nat) (bs:List Bool) (cs:List Int),Hid (DijD S q D hs (fun _ _=>False) b∧HeapW hs hs.length∧bs.count false*401+hs.length≤30000)∧Hid (DonB D bs q∧DonC D cs q)∧Hid (LstAt w wr C E V B q v hs bs cs)) (fun wr=>falses wr E*401+lenAtD wr B)
   case atStart=>exact ⟨_,hs2,v2,0,_,cs,HI2,⟨DonB.start q,HDC0.out⟩,HT2⟩
   case round=>
    clear HI2 HDC0 HT2;obtain⟨D,hs,v,b,bs,cs,hI,hDn,hT⟩:=hrel
    obtain⟨w3,hw3⟩:∃ w3,w3=wr:=⟨_,rfl⟩
    subst hw3;have hlen:hs.length≤30000:=by have:=hI.out.2.2;omega
    have HMS:Hid (falses w3 E*401+lenAtD w3 B=bs.count false*401+hs.length):=by show _=_;rw[hT.out.few,hT.out.len]
    obtain⟨av,cv,hv⟩:=own_slW hT.out.heap
    subst hv;have cB:=hT.out.var.cell 0 (v:= .slice av hs.length cv) rfl;by_cases hz:hs.length=0
    ·have hz':((hs.length:Nat):Int)=0:=by omega
     have HAN:Hid (LstAns P q cs 0):=by
      have h9:=hI.out.1;rw[List.eq_nil_of_length_eq_zero hz]at h9;exact h9.ans HS.out HP.out hDn.out.2.1 hDn.out.2.2
     have HNU:Hid (Nums w3 (.slice (some ⟨C,0,none⟩) q q) cs):=by have h9:=jjef (cap:=q) hT.out.cst;rw[hDn.out.2.1]at h9;exact h9
     go_wp2_with (first
      | (go_at_call 174;(with_reducible refine(wLen_any _ _ _ _).mono ?_);rintro e w4 ⟨rfl,rfl⟩))
     go_ret2;exact⟨_,cs,0,rfl,HAN.out,HNU.out,hT.out.below⟩
    ·have hz':(0:Int)<((hs.length:Nat):Int):=by omega
     have HPO:=hidP (whPop_ex B (B+1) _ hs w3 hT.out.var hT.out.heap (by omega) (by omega) hI.out.2.1 hI.out.1);go_wp2_with (first
      | (go_at_call 174;(with_reducible refine(wLen_any _ _ _ _).mono ?_);rintro e w4 ⟨rfl,rfl⟩)
      | (go_at_call 175;((with_reducible refine HPO.out.mono ?_);rintro e w5 ⟨p,c,rfl,hpq,hc2,v5,hs5,hh5,hp5,hle5,hb5,ho5,ht5⟩;have HT5:=hidP ((hT.out.turn ht5 hb5 ho5).alloc (.cells #[.int .i64 (p:Int),.int .i64 (c:Int)] 211));have HQ5:Hid (HeapW hs5 hs5.length∧(wyD p c::hs5).Perm hs∧(∀ a ∈ hs5,(c:Int)≤a.2.2.2)):=⟨hh5,hp5,hle5⟩;have HB5:Hid (Blk (w5.alloc (.cells #[.int .i64 (p:Int),.int .i64 (c:Int)] 211)) w5.heap.size #[.int .i64 (p:Int),.int .i64 (c:Int)] 211):=Blk.made _ _ _;have HGR:Hid (some w5.heap.size≠v5.ownBlock):=(fun e9=>(by have h9:=(ho5.lt _ e9.symm).2;omega));have hL5:hs.length=hs5.length+1:=(by have h9:=hp5.length_eq;rw[List.length_cons]at h9;exact h9.symm);clear hh5 hp5 hle5 hb5 ho5 ht5;have p0:(0:Int)≤(p:Int):=Int.natCast_nonneg _;have p1:(p:Int)<(q:Int):=(by omega);have cV:=HT5.out.dvr.cell 0 (v:= .slice (some ⟨E,0,none⟩) q q) rfl;have cE:=jjdr HT5.out.don (j:=p) (by rw[hDn.out.1.1];exact hpq);rcases jjam (el bs p)with hf | hf<;>rw [hf]at cE;case' inr=>(by_cases hov:(1000000000:Int)<(c:Int)))))
     ·go_ret2
      exact⟨_,[],4,rfl,hI.out.1.over HS.out HP.out HQ5.out.2.1 HQ5.out.2.2 (hDn.out.1.none hpq hf) (by omega),.inl ⟨rfl,rfl⟩,HT5.out.below⟩
     ·have HNO:=hidP (hDn.out.1.none hpq hf)
      have hov2:c≤1000000000:=by omega
      have HNW:=hidP (hI.out.1.new HQ5.out.2.1 HQ5.out.2.2 HNO.out hov2);have HPB:=hidP (hDn.out.1.put hpq c);have HPC:=hidP (hDn.out.2.put hpq c);have hcnt:=cnt_less (bs:=bs) (p:=p) (by rw[hDn.out.1.1];exact hpq) hf;generalize hW:w5.alloc (.cells #[.int .i64 (p:Int),.int .i64 (c:Int)] 211)=W5 at *;generalize hG:w5.heap.size=G at *;clear hW hG hf cE cV
      have HS6:HeldL G V E q p c W5.drew:=⟨HB5.out.cell 0 rfl,HB5.out.cell 1 rfl,HT5.out.dvr.cell 0 rfl⟩
      have hGC:G≠C:=blk_neD HB5.out HT5.out.cst (by decide);have hGE:G≠E:=blk_neD HB5.out HT5.out.don (by decide);have hGB:G≠B:=blk_neD HB5.out HT5.out.var (by decide);have hVC:V≠C:=by have:=HT5.out.s1;have:=HT5.out.s2;omega
      have T6:=hidP (HT5.out.setC p (c:Int));have T7:=hidP (T6.out.setE p).drew;have B6:Hid (Blk (W5.setCell ⟨C,p,none⟩ (.int .i64 (c:Int))) G #[.int .i64 (p:Int),.int .i64 (c:Int)] 211):=HB5.out.setO _ _ hGC;have B7:Hid (Blk ((W5.setCell ⟨C,p,none⟩ (.int .i64 (c:Int))).setCell ⟨E,p,none⟩ (.bool true)).drew G #[.int .i64 (p:Int),.int .i64 (c:Int)] 211):=(B6.out.setO _ _ hGE).drew
      have HS7:HeldL G V E q p c (W5.setCell ⟨C,p,none⟩ (.int .i64 (c:Int))).drew:=⟨B6.out.cell 0 rfl,B6.out.cell 1 rfl,T6.out.dvr.cell 0 rfl⟩
      have fC:=HT5.out.cst.fz p;have yC:=jjba HT5.out.cst (j:=p) (by rw[hDn.out.2.1];exact hpq);have fE:=HT5.out.don.fz p;have yE:=jjdr T6.out.don (j:=p) (by rw[hDn.out.1.1];exact hpq);refine jjaf (HeldL G V E q p c) 11 (by kernel_rfl) ?_
      refine jjaa (v:=?v0_1) aZ0 ?y0_1 HS6 ?r0_1
      case y0_1=>intro wx hx;obtain⟨h1,h2,h3⟩:=hx;go_simp;try (with_reducible rfl)
      simp only[Act.put,sA,sB,sC];refine jjaa (v:=?v1_2) aZ1 ?y1_2 HS6 ?r1_2
      case y1_2=>intro wx hx;obtain⟨h1,h2,h3⟩:=hx;go_simp;try (with_reducible rfl)
      simp only[Act.put,sA,sB,sC];refine jjaa (v:=?v2_3) aZ2 ?y2_3 HS6 ?r2_3
      case y2_3=>intro wx hx;obtain⟨h1,h2,h3⟩:=hx;go_simp;try (with_reducible rfl)
      simp only[Act.put,sA,sB,sC];refine jjaa (v:=?v3_4) aZ3 ?y3_4 HS6 ?r3_4
      case y3_4=>intro wx hx;obtain⟨h1,h2,h3⟩:=hx;go_simp;try (with_reducible rfl)
      simp only[Act.put,sA,sB,sC];refine jjaa (v:=?v4_5) aZ4 ?y4_5 HS6 ?r4_5
      case y4_5=>intro wx hx;obtain⟨h1,h2,h3⟩:=hx;go_simp;try (with_reducible rfl)
      simp only[Act.put,sA,sB,sC];refine jjaa (v:=?v5_6) aZ5 ?y5_6 HS6 ?r5_6
      case y5_6=>intro wx hx;obtain⟨h1,h2,h3⟩:=hx;go_simp;try (with_reducible rfl)
      simp only[Act.put,sA,sB,sC];refine jjaa (v:=?v6_7) aZ6 ?y6_7 HS6 ?r6_7
      case y6_7=>intro wx hx;obtain⟨h1,h2,h3⟩:=hx;go_simp;try (with_reducible rfl)
      simp only[Act.put,sA,sB,sC];refine jjaa (v:=?v7_8) aZ7 ?y7_8 HS6 ?r7_8
      case y7_8=>intro wx hx;obtain⟨h1,h2,h3⟩:=hx;go_simp;try (with_reducible rfl)
      simp only[Act.put,sA,sB,sC];refine jjaa (v:=?v8_9) aZ8 ?y8_9 HS6 ?r8_9
      case y8_9=>intro wx hx;obtain⟨h1,h2,h3⟩:=hx;go_simp;try (with_reducible rfl)
      simp only[Act.put,sA,sB,sC];refine jjab aZ9 (fun K hK=>?_)
      go_simp;refine hK _ _ (.inr HS7) ?_
      try simp only[Act.put,sA,sB,sC]
      refine jjaa (v:=?v10_10) aZ10 ?y10_10 HS7 ?r10_10
      case y10_10=>intro wx hx;obtain⟨h1,h2,h3⟩:=hx;go_simp;try (with_reducible rfl)
      simp only[Act.put,sA,sB,sC];refine jjab aZ11 (fun K hK=>?_)
      go_simp;refine hK _ _ (.inl rfl) (jjad (by kernel_rfl) (NoPanic.normal ?_))
      try simp only[Act.put,sA,sB,sC]
      clear HS6 HS7 fC yC fE yE;generalize hW7:((W5.setCell ⟨C,p,none⟩ (.int .i64 (c:Int))).setCell ⟨E,p,none⟩ (.bool true)).drew=W7 at *;clear hW7 T6 B6;go_wp2;obtain⟨hcT,hRp⟩:=HRW.out p hpq
      have HS8:HeldN G T p c (el rows p) W7.drew:=⟨B7.out.cell 0 rfl,B7.out.cell 1 rfl,(T7.out.below.cell (p:=⟨T,p,none⟩) (by assumption)).trans hcT⟩
      have HPP:=hidP (put_any (D:=updD D p c) w W7.drew C E V B q p c v5 (el rows p) hs5 _ _ T7.out.drew HS.out HNW.out (if_pos rfl) HPB.out HQ5.out.1 (by omega) (by omega) hRp hN hov2);refine jjaf (HeldN G T p c (el rows p)) 1000 (by kernel_rfl) ?_
      refine jjaa (v:=?v0_11) aZ0 ?y0_11 HS8 ?r0_11
      case y0_11=>intro wx hx;obtain⟨h1,h2,h3⟩:=hx;go_simp;try (with_reducible rfl)
      simp only[Act.put,sA,sB,sC];refine jjaa (v:=?v1_12) aZ1 ?y1_12 HS8 ?r1_12
      case y1_12=>intro wx hx;obtain⟨h1,h2,h3⟩:=hx;go_simp;try (with_reducible rfl)
      simp only[Act.put,sA,sB,sC];refine jjaa (v:=?v2_13) aZ2 ?y2_13 HS8 ?r2_13
      case y2_13=>intro wx hx;obtain⟨h1,h2,h3⟩:=hx;go_simp;try (with_reducible rfl)
      simp only[Act.put,sA,sB,sC];refine jjaa (v:=?v3_14) aZ3 ?y3_14 HS8 ?r3_14
      case y3_14=>intro wx hx;obtain⟨h1,h2,h3⟩:=hx;go_simp;try (with_reducible rfl)
      simp only[Act.put,sA,sB,sC];refine jjaa (v:=?v4_15) aZ4 ?y4_15 HS8 ?r4_15
      case y4_15=>intro wx hx;obtain⟨h1,h2,h3⟩:=hx;go_simp;try (with_reducible rfl)
      simp only[Act.put,sA,sB,sC];refine jjaa (v:=?v5_16) aZ5 ?y5_16 HS8 ?r5_16
      case y5_16=>intro wx hx;obtain⟨h1,h2,h3⟩:=hx;go_simp;try (with_reducible rfl)
      simp only[Act.put,sA,sB,sC];refine jjaa (v:=?v6_17) aZ6 ?y6_17 HS8 ?r6_17
      case y6_17=>intro wx hx;obtain⟨h1,h2,h3⟩:=hx;go_simp;try (with_reducible rfl)
      simp only[Act.put,sA,sB,sC];refine jjaa (v:=?v7_18) aZ7 ?y7_18 HS8 ?r7_18
      case y7_18=>intro wx hx;obtain⟨h1,h2,h3⟩:=hx;go_simp;try (with_reducible rfl)
      simp only[Act.put,sA,sB,sC];refine jjab aZ8 (fun K hK=>?_)
      go_simp;refine HPP.out.mono ?_
      rintro e w8 ⟨rfl,v8,hs8,ht8,hd8,hh8,hl8,hu8⟩
      have B8:=hu8.blk B7.out.drew hGB HGR.out;refine hK _ _ (.inr ⟨B8.cell 0 rfl,B8.cell 1 rfl,(ht8.below.cell (p:=⟨T,p,none⟩) (by assumption)).trans hcT⟩) (jjad (by kernel_rfl) (NoPanic.normal ?_))
      try simp only[Act.put,sA,sB,sC]
      go_wp2;have h30:=hI.out.2.2;refine⟨⟨updD D p c,hs8,v8,c,bs.set p true,cs.set p (c:Int),⟨hd8,hh8,by omega⟩,⟨HPB.out,HPC.out⟩,ht8⟩,?_⟩
      rw[HMS.out,ht8.few,ht8.len];omega
     ·obtain ⟨d,hd⟩:=hDn.out.1.some hpq hf
      refine⟨⟨D,hs5,v5,b,bs,cs,⟨hI.out.1.old HQ5.out.2.1 hd,HQ5.out.1,by have:=hI.out.2.2;omega⟩,hDn,HT5⟩,?_⟩
      rw[HMS.out,HT5.out.few,HT5.out.len];omega
end Dw
namespace Wt
open ChangeShapes WideShapes ChangeAt RowKit Pl
def HeldDp (B:Nat)(z:Int)(v:Value)(w:World):Prop:=Blk w B #[.int .i64 z,v] 24
theorem HeldDp.two {B:Nat}{z:Int}{v:Value}{w:World}(h:HeldDp B z v w):w.cell? ⟨B,0,none⟩=some (.int .i64 z)∧w.cell? ⟨B,1,none⟩=some v:=⟨h.cell 0 rfl,h.cell 1 rfl⟩
theorem tab_rows {w:World}{base g n:Nat}{rows:List Value}{F:List Ar}{f:Nat→List Ar}(h:Dw.WayTab w base g n rows f):∀ q,q<n→w.cell? ⟨g,q,none⟩=some (el rows q)∧Row 2 Dw.encD w (el rows q) (stpW F f n q):=fun q hq=>by
 rw[stpW_at hq];exact⟨h.cell hq,Row.ofOwn Dw.encD_len (h.row q hq) rfl⟩
theorem endsP_ok (v:Value)(m:Mc)(w:World)(h:Mach w v m)(hok:okM m)(hr:faultM m=0):
  Calls Tryz.prog 111 #[v] w fun e w'=>LstRes (LstAns (EndC m.2) m.2.length) w e w':=by
 obtain⟨z,l⟩:=m
 obtain⟨vs,rfl,hS⟩:=h
 obtain⟨a,cap,rfl⟩:=hS.sl
 have HM:Hid (Mach w (.agg #[.int .i64 z,.slice a l.length cap]) (z,l)):=⟨_,rfl,hS⟩
 have HK:Hid (okM (z,l)):=hok;have HR:Hid (faultM (z,l)=0):=hr;have HZ:Hid (-1≤z):=(jjag hr).1.1;have H60:Hid (l.length≤60):=(jjae hr).1;have HSR:=hidP (stpE_right (m:=(z,l)) hr);have HPR:=hidP (end_rch (m:=(z,l)) hr);clear hS hok hr;simp only at HSR HPR ⊢;generalize hn:l.length=n at *;have HN:Hid (l.length=n):=hn;clear hn;go_enter Tryz.func111,Tryz.ntmps111;go_wp2_with (first
  | (go_at_call 45;(with_reducible refine(jjal _ (z,l) _ (HM.out.later (B:=w.heap.size) (by go_grown) (Nat.le_refl _)) HK.out 0 HR.out).mono ?_);rintro e w1 ⟨rfl,hb⟩;obtain⟨s1,b1,hb1⟩:=boxed hb (by simp);have K0:HeldDp w.heap.size z (.slice a n cap) w1:=b1;have HB1:Hid (Below w.heap.size w w1):=hb1;clear b1 hb1 hb))
 have K1:HeldDp w.heap.size z (.slice a n cap) w1.drew:=K0.drew;refine jjaf (HeldDp w.heap.size z (.slice a n cap)) 1000 (by kernel_rfl) ?_
 refine jjaa (v:=?v0_1) aZ0 ?y0_1 K1 ?r0_1
 case y0_1=>intro wx hx;obtain⟨x0,x1⟩:=hx.two;go_simp;try (with_reducible rfl)
 simp only[Act.put,sA,sB,sC];refine jjaa (v:=?v2_2) aZ2 ?y2_2 K1 ?r2_2
 case y2_2=>intro wx hx;obtain⟨x0,x1⟩:=hx.two;go_simp;try (with_reducible rfl)
 simp only[Act.put,sA,sB,sC];refine jjab aZ1 (fun K hK=>?_)
 go_simp;refine(Dw.ends_any z _ l _ (HM.out.later HB1.out.drew (Nat.le_refl _)) HR.out).mono ?_
 rintro e w2 ⟨v2,rfl,ho2,hb2⟩
 rw[HN.out]at ho2;have K2:HeldDp w.heap.size z (.slice a n cap) w2:=K1.below hb2 s1;have HB2:Hid (Below w.heap.size w w2):=HB1.out.trans ((Dw.below_undrewD hb2).mono HB1.out.size);have HO2:Hid (Row 2 Dw.encD w2 v2 (endW l n)):=ho2;have s2:w1.heap.size≤w2.heap.size:=hb2.size;refine hK _ _ (.inr K2) ?_
 try simp only[Act.put,sA,sB,sC]
 clear hb2 ho2 K0 K1;refine jjab aZ3 (fun K hK=>?_)
 go_simp;refine(Dw.backward_any z _ l _ (HM.out.later HB2.out (Nat.le_refl _)) HR.out).mono ?_
 rintro e w3 ⟨rfl,⟨rows,t3⟩,hb3⟩
 rw[HN.out]at t3;have K3:HeldDp w.heap.size z (.slice a n cap) w3:=K2.below hb3 (by omega);have HB3:Hid (Below w.heap.size w w3):=HB2.out.trans (hb3.mono HB2.out.size);have HO3:Hid (Row 2 Dw.encD w3 v2 (stpW (endW l n) (filS bkK l n) n n)):=by have h9:=HO2.out.later hb3 (Nat.le_refl _);show Row _ _ _ _ _;rw[jjex];exact h9
 have HLA:Hid (Calls Tryz.prog 143 #[v2,.slice (some ⟨w2.heap.size+1,0,none⟩) n n] w3 fun e w'=>LstRes (LstAns (EndC l) n) w3 e w'):=Dw.least_any n (w2.heap.size+1) v2 rows w3 H60.out HSR.out HPR.out HO3.out t3.blk.lt (tab_rows t3);refine hK _ _ (.inr K3) ?_
 try simp only[Act.put,List.setIfInBounds_toArray,List.set_cons_zero,List.set_cons_succ,HN.out]
 clear t3 K2;refine jjab aZ4 (fun K hK=>?_)
 go_simp;refine HLA.out.mono ?_
 rintro e w4 ⟨v4,vs4,ec4,rfl,hA4,hN4,hb4⟩
 have K4:HeldDp w.heap.size z (.slice a n cap) w4:=K3.below hb4 (by have:=hb3.size;omega);have HB4:Hid (Below w.heap.size w w4):=HB3.out.trans (hb4.mono HB3.out.size);have HA4:=hidP hA4;have HN4:=hidP hN4;refine hK _ _ (.inr K4) ?_
 try simp only[Act.put,sA,sB,sC]
 clear hA4 hN4 hb4 hb3 K3;refine jjaa (v:=?v5_3) aZ5 ?y5_3 K4 ?r5_3
 case y5_3=>intro wx hx;obtain⟨x0,x1⟩:=hx.two;go_simp;try (with_reducible rfl)
 simp only[Act.put,sA,sB,sC];refine jjaa (v:=?v6_4) aZ6 ?y6_4 K4 ?r6_4
 case y6_4=>intro wx hx;obtain⟨x0,x1⟩:=hx.two;go_simp;try (with_reducible rfl)
 simp only[Act.put,sA,sB,sC];refine jjab aZ7 (fun K hK=>?_)
 go_simp;refine hK _ _ (.inr K4) ?_
 try simp only[Act.put,sA,sB,sC]
 refine jjab aZ8 (fun K hK=>?_)
 go_simp;refine hK _ _ (.inr K4) (jjad (by kernel_rfl) (NoPanic.normal ?_))
 try simp only[Act.put,sA,sB,sC]
 clear K4;go_wp2;exact bodyPost_ret (v:= .tuple #[v4,.int .i64 ec4]) (by simp[results,Tryz.results111,go_sem]) rfl ⟨_,vs4,ec4,rfl,HA4.out,HN4.out,HB4.out⟩
theorem endsP_bad (v:Value)(m:Mc)(w:World)(h:Mach w v m)(hok:okM m)(r:Int)(hr:faultM m=r)(h0:¬ r=0):
  Calls Tryz.prog 111 #[v] w fun e w'=>e= .returned (.tuple #[.slice none 0 0,.int .i64 r])∧Below w.heap.size w w':=by
 obtain⟨z,l⟩:=m
 obtain⟨vs,rfl,hS⟩:=h
 obtain⟨a,cap,rfl⟩:=hS.sl
 have HM:Hid (Mach w (.agg #[.int .i64 z,.slice a l.length cap]) (z,l)):=⟨_,rfl,hS⟩
 have HK:Hid (okM (z,l)):=hok;have HR:Hid (faultM (z,l)=r):=hr;clear hS hok hr;simp only;have hne:(r !=0)=true:=by simpa using h0
 generalize l.length=n at *;go_enter Tryz.func111,Tryz.ntmps111;go_wp2_with (first
  | (go_at_call 45;(with_reducible refine(jjal _ (z,l) _ (HM.out.later (B:=w.heap.size) (by go_grown) (Nat.le_refl _)) HK.out r HR.out).mono ?_);rintro e w1 ⟨rfl,hb⟩;obtain⟨s1,b1,hb1⟩:=boxed hb (by simp);have HB1:Hid (Below w.heap.size w w1):=hb1;clear b1 hb1 hb))
 go_ret2;exact⟨rfl,HB1.out⟩
theorem endsP_any (v:Value)(m:Mc)(w:World)(h:Mach w v m)(hok:okM m):
  Calls Tryz.prog 111 #[v] w fun e w'=>LstRes (DstAns m (EndC m.2)) w e w':=by
 by_cases hr:faultM m=0
 ·refine (endsP_ok v m w h hok hr).mono ?_
  rintro e w' ⟨vr,vs,ec,rfl,h1,h2,h3⟩
  exact⟨vr,vs,ec,rfl,.inr ⟨hr,h1⟩,h2,h3⟩
 ·refine (endsP_bad v m w h hok _ rfl hr).mono ?_
  rintro e w' ⟨rfl,h3⟩
  exact⟨_,[],_,rfl,.inl ⟨hr,rfl,rfl⟩,.inl ⟨rfl,rfl⟩,h3⟩
end Go.Proofs.YtppkiejhhmahcaaGreatDoor.Wt
