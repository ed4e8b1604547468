/- Facts, joined. -/
import Derived.Test.YtppkiejhhmahcaaGreatDoorSaA
set_option linter.unusedSimpArgs false
set_option linter.unusedVariables false
set_option maxHeartbeats 12800000
set_option maxRecDepth 100000
namespace Go.Proofs.YtppkiejhhmahcaaGreatDoor.Wt
open ChangeShapes WideShapes ChangeAt RowKit Maps Pl
theorem sh_of {n:Nat}{B:Int}{p:Pa}(h:SmP n B p)(hn:n≤60)(hB:B≤1000000000000):ShP p:=by
 unfold SmP at h;unfold ShP;omega
theorem fine_len {hs:List (Hg (List Int))}{L:List (List Int)}{n k:Nat}(hF:Fine hs L n k)(hL:L.length≤60)(hn:n≤400):(hpL hs L k).length≤60∧n+k≤400:=by
 cases k with
 | zero=>exact ⟨hL,hn⟩
 | succ j=>exact ⟨(hF j (by omega)).2.2,(hF j (by omega)).2.1⟩
theorem makAdd_any (w0 W:World)(base b mb:Nat)(vt vs:Value)(z:Int)(am:Option Addr)(nl capm:Nat)(l:List St)(T:List Int)(L:List (List Int))(S:List St)(n:Nat)(a:Option Addr)(np c:Nat)(h:MakN W base b mb vt vs (L.map parL) (n:Int))(hS:OwnSts W base vs S)(hP:OwnP W base (.slice a np c) (parL T))(hM:Mach w0 (.agg #[.int .i64 z,.slice am nl capm]) (z,l))(hf:faultM (z,l)=0)(ht:Tab w0)(hb0:Below w0.heap.size w0 W)(hwb:w0.heap.size≤base)(hT:SetN l.length 60000000000 T)(hLr:∀ R ∈ L,SetN l.length 60000000000 R)(hN:L.Nodup)(hL:L.length≤60)(n4:n≤400)(hSl:S.length≤1000)(hbW:base≤W.heap.size):
    Calls Tryz.prog 51 #[.pointer (some ⟨b,0,none⟩),.agg #[.int .i64 z,.slice am nl capm],.slice a np c] W fun e W'=>∃ ec:Int,e= .returned (.int .i64 ec)∧Below base W W'∧AddAns W base b mb l T L S n ec W':=by
  have h60:=(jjae hf).1;have hpl:(parL T).length≤60:=Nat.le_trans (parL_len T) (by rw[hT.len];exact h60);have hsm:∀ p ∈ parL T,SmP l.length 1000000000000 p:=fun p hp=>by have h9:=parL_sm hT p hp;unfold SmP at h9 ⊢;omega
  have hfin:finC l T=(tldN (mnL (fnsP l (parL T))),tldE (mnL (fnsP l (parL T)))):=by rw[fnsP_par hT.len];rfl
  obtain⟨r0,hr0⟩:∃ r0,(finC l T).1=r0:=⟨_,rfl⟩
  obtain⟨r1,hr1⟩:∃ r1,(finC l T).2=r1:=⟨_,rfl⟩
  have HF:=hidP (fun W' (hW:Below W.heap.size W W')=>finalOf_any (.agg #[.int .i64 z,.slice am nl capm]) (z,l) base (.slice a np c) (parL T) W' (hM.later (hb0.trans (hW.mono hb0.size)) (Nat.le_refl _)) hf (hP.later hW) hsm (by omega) r0 r1 (by rw[← hr0,hfin]) (by rw[← hr1,hfin]))
  have HAO:=hidP (fun W' (hW:Below W.heap.size W W')=>setArcs_any (.agg #[.int .i64 z,.slice am nl capm]) (z,l) base (.slice a np c) (parL T) W' (hM.later (hb0.trans (hW.mono hb0.size)) (Nat.le_refl _)) hf (hP.later hW) hsm (by omega));have HR1:=hidP hr1;have HR0:=hidP hr0;by_cases he:r1=0
  · subst he
    obtain⟨srt,hsrt⟩:∃ srt,sortL (arcW l (parL T))=srt:=⟨_,rfl⟩
    obtain⟨cs,hcs⟩:∃ cs,cutL srt=cs:=⟨_,rfl⟩
    obtain⟨hch1,hch2⟩:=cut_hops (m:=(z,l)) (B:=60000000000) hf hT (by unfold noneI;omega) hsrt hcs
    have HCI:Hid (∀ k,k≤srt.length→CutI srt k (cutS srt k).1 (cutS srt k).2):=fun k hk=>cut_inv (by rw[← hsrt];exact sort_leP _) k hk
    have HWT:Hid (∀ x ∈ srt,0≤x.2.2.1∧x.2.2.1≤2000000000000):=by rw[← hsrt];exact arcW_pos (m:=(z,l)) hf hT
    have hslen:srt.length≤40000:=by
      rw[← hsrt,sortL_length];have h1:=arcW_len (l:=l) (ps:=parL T) (fun q=>by
        by_cases hq:q<l.length
        · exact(jja7 hf q hq).2.1
        · rw[show el l q=default by simp[el,List.getElem?_eq_none (Nat.le_of_not_lt hq)]]
          exact Nat.zero_le _)
      omega
    have HGD:Hid (∀ i,i<(hopsC l T).length→SetN l.length 100000000000 (el (hopsC l T) i).2.2.2∧0≤(el (hopsC l T) i).2.2.1∧(el (hopsC l T) i).2.2.1≤100000000000):=fun i hi=>hops_good (m:=(z,l)) hf hT hi
    simp only at hch1 hch2;obtain⟨hs,hhs⟩:∃ hs,hopsC l T=hs:=⟨_,rfl⟩
    rw[hhs]at hch1 hch2 HGD;have HCH:=hidP hch2;have HLG:Hid (∀ i,i≤hs.length→∀ R ∈ hpL hs L i,SetN l.length 100000000000 R):=fun i hi=>hpL_good (fun R hR=>(hLr R hR).mono (by omega)) (fun i hi=>(HGD.out i hi).1) i hi
    have HND:Hid (∀ i,(hpL hs L i).Nodup):=fun i=>jjfx hN i
    have HANS:Hid (∀ ec W',((ec=4∧∃ i,i<hs.length∧Fine hs L n i∧1000000000<(el hs i).2.2.1)∨(ec=5∧∃ i,i<hs.length∧Fine hs L n i∧(el hs i).2.2.1≤1000000000∧(400<n+(i+1)∨60<(hpL hs L (i+1)).length))∨(ec=0∧Fine hs L n hs.length∧∃ vt vs,MakN W' base b mb vt vs ((hpL hs L hs.length).map parL) ((n+hs.length:Nat):Int)∧OwnSts W' base vs (S++[(r0,hpA hs L hs.length)])))→AddAns W base b mb l T L S n ec W'):=fun ec W' hx=>by
      refine .inr ⟨HR1.out,?_⟩
      rw[hhs,HR0.out];exact hx
    have HAO:Hid (∀ W',Below W.heap.size W W'→Calls Tryz.prog 108 #[.agg #[.int .i64 z,.slice am nl capm],.slice a np c] W' fun e w'=>∃ vr,e= .returned vr∧OwnArcs w' W'.heap.size vr srt∧Below W'.heap.size W' w'):=fun W' hW=>by
      have h9:=HAO.out W' hW;simp only at h9;rw[hsrt]at h9;exact h9
    have H:=hidP h;have HSt:=hidP hS;have HTB:=hidP ht;have HB0:=hidP hb0;have bl:=h.blk.lt;have HMB:=hidP h.blk;have HCS:=hidP hcs;have HLC:=hidP hch1;have hls:cs.length≤40001:=by
      have h1:(cutL srt).length≤srt.length+1:=by
        have h2:∀ k,(cutS srt k).1.length≤k:=fun k=>by
          induction k with
          | zero=>simp [cutS]
          | succ k ih=>
            unfold cutS;split
            · omega
            · simp;omega
        have h3:=h2 srt.length;unfold cutL;split
        · simp;omega
        · omega
      rw[hcs]at h1;omega
    clear h hS hM hf ht hb0 hT hLr hN hfin hsm hr0 hr1 hhs hsrt hch1 hch2 hcs HR1 HR0 hP;have HBX:Hid (Below W.heap.size W (W.alloc (.cells #[.int .i64 z,.slice am nl capm] 24))):=(Below.refl _ _).alloc (Nat.le_refl _) _;go_enter Tryz.func51,Tryz.ntmps51;go_wp2_with (first
      | (go_at_call 106;(with_reducible refine(HF.out _ HBX.out).mono ?_);rintro e w1 ⟨rfl,hb1⟩;obtain⟨s1,k0,hb1⟩:=boxed hb1 (by simp);have K1:=hidP k0;have B1:=hidP hb1;have m0:=k0.cell 0 (v:= .int .i64 z) rfl;have m1:=k0.cell 1 (v:= .slice am nl capm) rfl;have ml:=k0.lt;clear k0 hb1 HF HBX)
      | (go_at_call 108;(with_reducible refine(HAO.out _ (B1.out.alloc B1.out.size _)).mono ?_);rintro e w2 ⟨vr,rfl,ho2,hb2⟩;obtain⟨s2,k2,hb2⟩:=boxed hb2 (by simp);have K2:=hidP k2;have O2:=hidP ho2;have B2:=hidP (B1.out.trans (hb2.mono B1.out.size));obtain⟨a2,n2,c2,hv2⟩:=(by obtain⟨x,y,e⟩:=ho2.sl;exact⟨x,_,y,e⟩:∃ x nn y,vr= .slice x nn y);subst hv2;have hn2:n2=srt.length:=(by obtain⟨x,y,e⟩:=O2.out.sl;injection e);have HBL:=hidP (byLabels_any _ a2 n2 c2 srt w2 O2.out hn2 (by omega) HCI.out);have HN2:=hidP hn2;clear ho2 hb2 k2 HAO hn2 K1 m0 m1 ml)
      | (go_at_call 107;(with_reducible refine HBL.out.mono ?_);rintro e w3 ⟨vl,rfl,hl3,hb3⟩;rw[HCS.out]at hl3;obtain⟨a3,c3,hv3⟩:=hl3.sl;subst hv3;have L3:=hidP hl3;have O3:=hidP (O2.out.later hb3);have K3:=hidP (K2.out.below hb3 K2.out.lt);have B3:=hidP (B2.out.trans (hb3.mono B2.out.size));have hs3:=hb3.size;clear hl3 hb3 HBL O2 K2))
    obtain⟨nC,hnC⟩:∃ nC,cs.length=nC:=⟨_,rfl⟩
    rw[hnC]at HLC hls HCH L3 ⊢;have HNC:=hidP hnC;clear hnC;obtain⟨Sb,hSb⟩:∃ Sb,Sb=w1.heap.size:=⟨_,rfl⟩
    rw[← hSb]at K3 ⊢;have hSW:W.heap.size≤Sb:=by rw[hSb];exact B1.out.size
    clear hSb s1 s2 hs3;have A0:Hid (AddJ w3 w3 base b mb Sb vt vs ((hpL hs L 0).map parL) ((n+0:Nat):Int) r0 (.slice none 0 0) (hpA hs L 0)):=⟨H.out.later B3.out,MakQ.refl _ _ _,Below.refl _ _,K3.out,OwnArcs.nil _ _,Nat.lt_of_lt_of_le bl B3.out.size,K3.out.lt,by omega⟩
    have F0:Hid (Fine hs L n 0):=fun j hj=>absurd hj (by omega)
    have KM3:=hidP (H.out.later B3.out).blk;clear B1 B2;go_loopw [30] (fun i wr=>∃ (k:Nat) (vt' va:Value),k≤nC∧i= .int .i64 (k:Int)∧Hid (AddJ w3 wr base b mb Sb vt' vs ((hpL hs L k).map parL) ((n+k:Nat):Int) r0 va (hpA hs L k))∧Hid (Fine hs L n k)) (fun i _=>nC-(intOf i).toNat)
    case atStart=>exact ⟨0,vt,_,Nat.zero_le _,rfl,A0,F0⟩
    case round=>
      clear A0 F0;obtain⟨k,vt5,va5,hk,rfl,hI,hFi⟩:=hrel
      obtain⟨w5,hw5⟩:∃ w5,w5=wr:=⟨_,rfl⟩
      subst hw5;obtain⟨hLk,hnk⟩:=fine_len hFi.out hL n4
      obtain⟨nk,hNK⟩:∃ nk:Int,((n+k:Nat):Int)=nk:=⟨_,rfl⟩
      rw[hNK]at hI;have HNK:=hidP hNK;have nk0:0≤nk:=by omega
      have nk4:nk≤400:=by omega
      clear hNK;by_cases hlt:k<nC
      · have j0:(0:Int)≤(k:Int):=Int.natCast_nonneg _
        have j1:(k:Int)<(nC:Int):=by omega
        have hL5:LstM w5 w2.heap.size (.slice a3 nC c3) a2 c2 cs:=hI.out.keep.row L3.out (by decide) (jjak L3.out KM3.out (by decide)) (jjak L3.out K3.out (by decide));have hO5:OwnArcs w5 _ (.slice a2 n2 c2) srt:=hI.out.keep.row O3.out (by decide) (jjak O3.out KM3.out (by decide)) (jjak O3.out K3.out (by decide));obtain⟨G,hG,hGl,g0⟩:=hL5.get (q:=k) (by rw[HNC.out];exact hlt)
        subst hG;obtain⟨hc1,hc2,hc3,hc4,hc5⟩:=HCH.out k hlt
        have hAr:=pie_arcs hO5 hc1 hc2;have hgl:=pie_len hc1;have hkh:k<hs.length:=by rw[← HLC.out];exact hlt
        obtain⟨hgd1,hgd2,hgd3⟩:=HGD.out k hkh
        have hwt:∀ x ∈ pieA srt (el cs k),0≤x.2.2.1∧x.2.2.1≤2000000000000:=fun x hx=>HWT.out x (by unfold pieA at hx;exact List.mem_of_mem_drop (List.mem_of_mem_take hx))
        have hel0:el (pieA srt (el cs k)) 0=el srt (el cs k).1:=by rw[pie_el hc2,Nat.add_zero]
        obtain⟨g,hg⟩:∃ g,pieA srt (el cs k)=g:=⟨_,rfl⟩
        rw[hg]at hAr hgl hc4 hc5 hwt hel0;have HLS:Hid (hpL hs L (k+1)=addG (hpL hs L k) (el hs k).2.2.2):=rfl;have HAS:Hid (hpA hs L (k+1)=hpA hs L k++[arcG (hpL hs L k) (el hs k)]):=rfl;have HFA:Hid (∀ j,j<k→(el hs j).2.2.1≤1000000000∧n+(j+1)≤400∧(hpL hs L (j+1)).length≤60):=hFi.out;obtain⟨hp,hhp⟩:∃ hp,el hs k=hp:=⟨_,rfl⟩
        have HHP:=hidP hhp;rw[hhp]at hc3 hc4 hc5 hgd1 hgd2 hgd3 HLS HAS;obtain⟨x0,x1,ct,R⟩:=hp
        simp only at hc3 hc4 hc5 hgd1 hgd2 hgd3 HLS HAS;simp only[labA,Prod.mk.injEq]at hc3;obtain⟨sA,sN,sC,hsl⟩:∃ sA sN sC,slA a2 c2 (el cs k)=(sA,sN,sC):=⟨_,_,_,rfl⟩
        have hsN:sN=(el cs k).2:=by have h9:=congrArg (fun s=>s.2.1) hsl;exact h9.symm
        rw[hsl]at g0 hAr;simp only at g0 hAr;rw[← hsN]at hgl hc5 hc2;have HTG:=hidP (together_any sA sN sC g w5 hAr hgl.symm hc2 (by have:=hc1;omega) hwt ct hc4 x0 x1 (by rw[hel0];exact hc3.1) (by rw[hel0];exact hc3.2));rw[hc5]at HTG;have hRl:R.length=l.length:=hgd1.len;have hRL:(parL R).length≤60:=Nat.le_trans (parL_len R) (by rw[hRl];exact h60)
        have HRS:Hid (∀ p ∈ parL R,ShP p):=fun p hp=>sh_of (parL_sm hgd1 p hp) h60 (by omega)
        have HRN:Hid (parL R≠[]):=by rw[← hc5];exact tgU_ne hc2
        have hsz:=hI.out.keep.1;have HAL:=hidP (hpA_len hs L k);clear hL5 hO5 hc1 hc2 hc3 hc4 hc5 hAr hgl hwt hel0 hg hhp hsl hsN hFi;by_cases hov:1000000000<ct
        · have HAN:Hid (∀ W',AddAns W base b mb l T L S n 4 W'):=fun W'=>HANS.out 4 W' (.inl ⟨rfl,k,hkh,HFA.out,by rw[HHP.out];exact hov⟩)
          clear HANS HFA HLS HAS HAL HRS HRN hgd1 HHP;go_wp2_with (first
            | (go_at_call 109;(with_reducible refine HTG.out.mono ?_);rintro e w6 ⟨vr,rfl,ho6,hb6⟩;obtain⟨a6,n6,c6,hv6⟩:=(by obtain⟨x,y,e⟩:=ho6.sl;exact⟨x,_,y,e⟩:∃ x nn y,vr= .slice x nn y);subst hv6;have B6:=hidP ((hI.out.later hb6).later ((Below.refl w6.heap.size w6).alloc (Nat.le_refl _) (.cells #[.int .i64 x0,.int .i64 x1,.int .i64 ct,.int .i64 0] 56)));clear ho6 hb6 HTG))
          go_ret;exact⟨4,rfl,(B3.out.mono hbW).trans B6.out.below,HAN.out _⟩
        · have HNU:=hidP (fun W' (h1:AddJ w3 W' base b mb Sb vt5 vs ((hpL hs L k).map parL) nk r0 va5 (hpA hs L k)) a6 n6 c6 (h2:OwnP W' base (.slice a6 n6 c6) (parL R))=>makNum_any base b mb vt5 vs ((hpL hs L k).map parL) nk a6 n6 c6 (parL R) W' h1.mak h2 (HTB.out.later ((HB0.out.trans (B3.out.mono HB0.out.size)).trans (h1.below.mono hwb))) HRS.out HRN.out (by omega) (fun qs hq p hp=>by
            obtain⟨T',hT',rfl⟩:=List.mem_map.1 hq
            exact sh_of (parL_sm (HLG.out k (by omega) T' hT') p hp) h60 (by omega)) (nodup_par (n:=l.length) (fun T' hT'=>(HLG.out k (by omega) T' hT').len) (HND.out k)) (by rw[List.length_map];omega) (Nat.le_trans (Nat.le_trans hbW B3.out.size) h1.keep.1))
          have HLN:Hid (∀ T' ∈ hpL hs L k,T'.length=l.length):=fun T' hT'=>(HLG.out k (by omega) T' hT').len
          have hal:(hpA hs L k).length≤100000:=by rw[HAL.out];omega
          go_upto_region 12 with(first
            | (go_at_call 109;(with_reducible refine HTG.out.mono ?_);rintro e w6 ⟨vr,rfl,ho6,hb6⟩;obtain⟨a6,n6,c6,hv6⟩:=(by obtain⟨x,y,e⟩:=ho6.sl;exact⟨x,_,y,e⟩:∃ x nn y,vr= .slice x nn y);subst hv6;have hA6:=(Below.refl w6.heap.size w6).alloc (Nat.le_refl _) (.cells #[.int .i64 x0,.int .i64 x1,.int .i64 ct,.int .i64 0] 56);have I6:=hidP ((hI.out.later hb6).later hA6);have P6:=hidP ((ho6.later hA6).mono (Nat.le_trans (Nat.le_trans hbW B3.out.size) hsz));have X6:=hidP (Blk.made w6 #[.int .i64 x0,.int .i64 x1,.int .i64 ct,.int .i64 0] 56);have hs6:=hb6.size;have NE6:Hid (some w6.heap.size≠va5.ownBlock):=(fun e=>by have h9:=((hI.out.later hb6).arcs.lt _ e.symm).2;omega);have hAb:w6.heap.size≠b:=(by have h9:=(hI.out.later hb6).mak.blk.lt;omega);clear ho6 hb6 hA6 HTG)
            | (go_at_call 105;(with_reducible refine(HNU.out _ I6.out _ _ _ P6.out).mono ?_);rintro e w7 ⟨jx,rfl,hNO,⟨vt7,h7⟩,hk7,hb7⟩;have I7:=hidP (I6.out.num h7 hk7 hb7);have X7:=hidP (hk7.2 _ _ _ X6.out hAb (by decide));have NO:=hidP hNO;have q3:=X7.out.cell 3 (v:= .int .i64 0) rfl;have f3:=X7.out.fz 3;clear h7 hk7 hb7 hNO I6 P6 X6 HNU))
          have I8:=hidP (I7.out.setA (A:=w6.heap.size) (by omega) NE6.out X7.out 3 (.int .i64 (jx:Int)));have X8:Hid (Blk (w7.setCell ⟨w6.heap.size,3,none⟩ (.int .i64 (jx:Int))) w6.heap.size #[.int .i64 x0,.int .i64 x1,.int .i64 ct,.int .i64 (jx:Int)] 56):=X7.out.set 3 _;clear q3 f3 I7 X7;generalize w7.setCell ⟨w6.heap.size,3,none⟩ (.int .i64 (jx:Int))=w8 at *
          obtain⟨a9,n9,c9,w9,r9,hs9,h9⟩:=I8.out.push (x0,x1,ct,(jx:Int)) hal
          simp only at r9;have s1:=I8.out.sb.cell 1 (v:=va5) rfl;have y0:=X8.out.cell 0 (v:= .int .i64 x0) rfl;have y1:=X8.out.cell 1 (v:= .int .i64 x1) rfl;have y2:=X8.out.cell 2 (v:= .int .i64 ct) rfl;have y3:=X8.out.cell 3 (v:= .int .i64 (jx:Int)) rfl;have t1:=hs9.cell 1 (v:=va5) rfl;have tf:=hs9.fz 1;have HR9:=hidP r9;have I9:=hidP h9;clear r9 hs9 h9 X8 I8 hI
          go_upto_region 13 with(first | (at_builtin;refine wpListAppendRun rfl _ _ 43 rfl rfl rfl HR9.out ?_))
          clear s1 y0 y1 y2 y3 t1 tf HR9;generalize w9.setCell ⟨Sb,1,none⟩ (.slice a9 n9 c9)=w10 at *;have b3:=I9.out.mak.blk.cell 3 (v:= .int .i64 nk) rfl;have bf:=I9.out.mak.blk.fz 3;have hwr:IntKind.i64.wrap (nk+1)=nk+1:=wrapI (by omega) (by omega);have I10:=hidP (I9.out.setN (nk+1));have HFU:=hidP (makFull_any base b mb vt7 vs _ (nk+1) _ I10.out.mak)
          have HAD:Hid (addG ((hpL hs L k).map parL) (parL R)=(hpL hs L (k+1)).map parL):=by show _=_;rw[HLS.out];exact addG_par HLN.out hRl
          have HAR:Hid (hpA hs L k++[(x0,x1,ct,(jx:Int))]=hpA hs L (k+1)):=by show _=_;rw[HAS.out,arcG_par HLN.out hRl (HND.out k) NO.out.1 NO.out.2 x0 x1 ct]
          rw[HAD.out,HAR.out]at I10;rw[HAD.out,List.length_map]at HFU;clear HAD HAR NO I9 HLS HAS;by_cases hful:400<n+(k+1)∨60<(hpL hs L (k+1)).length
          · have HFU:=hidP (HFU.out true (decide_eq_true (by have:=HNK.out;omega)))
            have HAN:Hid (∀ W',AddAns W base b mb l T L S n 5 W'):=fun W'=>HANS.out 5 W' (.inr (.inl ⟨rfl,k,hkh,HFA.out,by rw[HHP.out];simp only;omega,hful⟩))
            clear HANS HFA HAL HRS HRN hgd1 HHP hful;go_wp2_with (first
              | (go_at_call 110;(with_reducible refine HFU.out.mono ?_);rintro e wq ⟨rfl,rfl⟩))
            go_ret;exact⟨5,rfl,(B3.out.mono hbW).trans I10.out.below,HAN.out _⟩
          · have HFU:=hidP (HFU.out false (decide_eq_false (by have:=HNK.out;omega)))
            have HF2:Hid (Fine hs L n (k+1)):=fun j hj=>by
              by_cases e:j=k
              · subst e
                exact⟨by rw[HHP.out];simp only;omega,by omega,by omega⟩
              · exact HFA.out j (by omega)
            have HNK2:Hid (nk+1=((n+(k+1):Nat):Int)):=by show _=_;rw[← HNK.out];omega
            clear HANS HFA HAL HRS HRN hgd1 HHP hful;go_wp2_with (first
              | (go_at_call 110;(with_reducible refine HFU.out.mono ?_);rintro e wq ⟨rfl,rfl⟩))
            go_roundw
            case rel=>exact ⟨k+1,vt7,.slice a9 n9 c9,by omega,by go_num,by rw[← HNK2.out];exact I10,HF2⟩
            case measure=>simp [intOf];omega
      · have hkm:k=nC:=by omega
        have hnl:¬ (k:Int)<(nC:Int):=by omega
        have HKS:Hid (k=hs.length):=by show _=_;rw[hkm];exact HLC.out
        have hzl:∀ q,vs.ownBlock=some q→q<W.heap.size:=fun q hq=>by
          obtain⟨vv,y1,_⟩:=HSt.out
          exact(y1.lt q hq).2
        subst hkm;clear hlt hk;have hSW:OwnSts w5 base vs S:=by
          obtain⟨vv,y1,y2,y3⟩:=HSt.out.laterB B3.out
          exact⟨vv,hI.out.keep.row y1 (by decide) (jjak y1 KM3.out (by decide)) (fun e=>by have:=hzl _ e.symm;omega),y2,fun j hj=>⟨(y3 j hj).1,hI.out.keep.row (y3 j hj).2 (by decide) (jjak (y3 j hj).2 KM3.out (by decide)) (jjak (y3 j hj).2 K3.out (by decide))⟩⟩
        have hD:=(Below.refl w5.heap.size w5).drew;have hD2:=((Below.refl w5.heap.size w5).drew).alloc (Nat.le_refl _) (.cells #[.int .i64 r0,va5] 45);have hb5:base≤w5.heap.size:=Nat.le_trans (Nat.le_trans hbW B3.out.size) hI.out.keep.1
        obtain⟨v6,w6,hr6,ho6,hb6,hg6⟩:=jjfe (W:=w5.drew.alloc (.cells #[.int .i64 r0,va5] 45)) (w1:=w5.drew) (r0,hpA hs L k) S va5 vs base rfl rfl rfl rfl (hSW.laterB hD) (OwnArcs.mono (hI.out.arcs.later hD) (Nat.le_trans hbW B3.out.size)) (by omega) hb5
        obtain⟨a6,c6,hv6⟩:=ho6.sts.sl
        obtain⟨n6,hn6⟩:∃ n6,(S++[(r0,hpA hs L k)]).length=n6:=⟨_,rfl⟩
        rw[hn6]at hv6;clear hn6;subst hv6;have hI2:=hI.out.later hD2;obtain⟨vv,z1,z2,z3⟩:=hSW.laterB hD2
        have hs6:Blk w6 Sb #[.int .i64 r0,va5] 45:=hI2.sb.grown hg6 (fun e=>by have:=hzl _ e.symm;omega);have hb6':Blk w6 b #[.map (some mb),vt5,vs,.int .i64 nk] 89:=hI2.mak.blk.grown hg6 (jjak z1 hI2.mak.blk (by decide));have ht6:TxM w6 mb ((hpL hs L k).map parL |>.map txL):=hI2.mak.tr.keep (hg6.block _ hI2.mak.tr.lt (hI2.mak.tr.neRow z1))
        have hr6':SetsM w6 base vt5 ((hpL hs L k).map parL):=hI2.mak.trs.kept z1 (by decide) (by decide) hg6;have HC7:Hid (MakN (w6.setCell ⟨b,2,none⟩ (.slice a6 n6 c6)) base b mb vt5 (.slice a6 n6 c6) ((hpL hs L k).map parL) nk):=⟨hb6'.set 2 _,ht6.keep (Below.heap_setCell w6 ⟨b,2,none⟩ _ mb (ht6.neBlk hb6')),hr6'.setB hb6' (by decide) (by decide) 2 _,hI.out.mak.hb,hI.out.mak.hm⟩
        have HO7:Hid (OwnSts (w6.setCell ⟨b,2,none⟩ (.slice a6 n6 c6)) base (.slice a6 n6 c6) (S++[(r0,hpA hs L k)])):=(MakK.set (b:=b)).sts hb6' ho6;have HB7:=hidP ((((B3.out.mono hbW).trans (hI.out.below.trans ((Below.refl base w5).drew))).trans hb6).setCell (p:=⟨b,2,none⟩) hI.out.mak.hb (.slice a6 n6 c6))
        have HSA:HeldM4 b vs Sb r0 va5 w5.drew:=⟨hI.out.mak.blk.cell 2 rfl,hI.out.sb.cell 0 rfl,hI.out.sb.cell 1 rfl⟩
        have HSB:HeldM4 b vs Sb r0 va5 (w5.drew.alloc (.cells #[.int .i64 r0,va5] 45)):=⟨hI2.mak.blk.cell 2 rfl,hI2.sb.cell 0 rfl,hI2.sb.cell 1 rfl⟩
        have HSC:HeldM4 b vs Sb r0 va5 w6:=⟨hb6'.cell 2 rfl,hs6.cell 0 rfl,hs6.cell 1 rfl⟩
        have c6':=hb6'.cell 2 (v:=vs) rfl;have f6:=hb6'.fz 2;have HR6:=hidP hr6;have HAN:=hidP (HANS.out 0 (w6.setCell ⟨b,2,none⟩ (.slice a6 n6 c6)) (.inr (.inr ⟨rfl,by rw[← HKS.out];exact hFi.out,vt5,.slice a6 n6 c6,by rw[← HKS.out,HNK.out];exact HC7.out,by rw[← HKS.out];exact HO7.out⟩)));clear hSW hD hD2 hr6 ho6 hb6 hg6 hI2 z1 z2 z3 hzl hs6 hb6' ht6 hr6' hI hFi HC7 HO7 HANS;go_wp2
        refine jjaf (HeldM4 b vs Sb r0 va5) 10 (by kernel_rfl) ?_
        refine jjaa (v:=?v0_1) aZ0 ?y0_1 HSA ?r0_1
        case y0_1=>intro wx hx;obtain⟨g0,g1,g2⟩:=hx;go_simp;try (with_reducible rfl)
        simp only[Act.put,sA,sB,sC];refine jjaa (v:=?v1_2) aZ1 ?y1_2 HSA ?r1_2
        case y1_2=>intro wx hx;obtain⟨g0,g1,g2⟩:=hx;go_simp;try (with_reducible rfl)
        simp only[Act.put,sA,sB,sC];refine jjaa (v:=?v2_3) aZ2 ?y2_3 HSA ?r2_3
        case y2_3=>intro wx hx;obtain⟨g0,g1,g2⟩:=hx;go_simp;try (with_reducible rfl)
        simp only[Act.put,sA,sB,sC];refine jjaa (v:=?v3_4) aZ3 ?y3_4 HSA ?r3_4
        case y3_4=>intro wx hx;obtain⟨g0,g1,g2⟩:=hx;go_simp;try (with_reducible rfl)
        simp only[Act.put,sA,sB,sC];refine jjaa (v:=?v4_5) aZ4 ?y4_5 HSA ?r4_5
        case y4_5=>intro wx hx;obtain⟨g0,g1,g2⟩:=hx;go_simp;try (with_reducible rfl)
        simp only[Act.put,sA,sB,sC];refine jjaa (v:=?v5_6) aZ5 ?y5_6 HSA ?r5_6
        case y5_6=>intro wx hx;obtain⟨g0,g1,g2⟩:=hx;go_simp;try (with_reducible rfl)
        simp only[Act.put,sA,sB,sC];refine jjab aZ6 (fun K hK=>?_)
        go_simp;refine hK _ _ (.inr HSB) ?_
        try simp only[Act.put,sA,sB,sC]
        refine jjab aZ7 (fun K hK=>?_)
        refine jjaw (.tmp 66) (.tmp 68) 22 rfl rfl rfl HR6.out ?_
        refine hK _ _ (.inr HSC) ?_
        try simp only[Act.put,sA,sB,sC]
        refine jjab aZ8 (fun K hK=>?_)
        go_simp;refine hK _ _ (.inr HSC) ?_
        try simp only[Act.put,sA,sB,sC]
        refine jjab aZ9 (fun K hK=>?_)
        go_simp;refine hK _ _ (.inr HSC) ?_
        try simp only[Act.put,sA,sB,sC]
        refine jjab aZ10 (fun K hK=>?_)
        go_simp;refine hK _ _ (.inl rfl) (jjad (by kernel_rfl) (NoPanic.normal ?_))
        try simp only[Act.put,sA,sB,sC]
        clear HSA HSB HSC;go_wp2;go_ret;exact⟨0,rfl,HB7.out,HAN.out⟩
  · have hne:(r1 !=0)=true:=by simpa using he
    have HBX:Hid (Below W.heap.size W (W.alloc (.cells #[.int .i64 z,.slice am nl capm] 24))):=(Below.refl _ _).alloc (Nat.le_refl _) _;have HE:Hid (∀ W',AddAns W base b mb l T L S n r1 W'):=fun W'=> .inl ⟨by rw[HR1.out];exact he,HR1.out.symm⟩
    clear h hS hM hf ht hb0 hT hLr hN hfin hsm hr0 hr1 HAO HR0 HR1 hP;go_enter Tryz.func51,Tryz.ntmps51;go_wp2_with (first
      | (go_at_call 106;(with_reducible refine(HF.out _ HBX.out).mono ?_);rintro e w1 ⟨rfl,hb1⟩;obtain⟨s1,k0,hb1⟩:=boxed hb1 (by simp);have B1:=hidP hb1;clear k0 hb1 HF HBX))
    go_ret;exact⟨r1,rfl,B1.out.mono hbW,HE.out _⟩
theorem wrapK {n:Int}(h0: -9223372036854775808≤n)(h1:n≤9223372036854775807):IntKind.i64.wrap n=n:=by
 have h64:IntKind.i64.wrap n=if n % 18446744073709551616≥9223372036854775808 then n % 18446744073709551616-18446744073709551616 else n % 18446744073709551616:=by
  simp[IntKind.wrap,IntKind.bits,IntKind.signed]
 rw[h64];split<;>omega
def cells4 (w:World)(b o:Nat)(a:Ar):Prop:=w.cell? ⟨b,o,none⟩=some (.int .i64 a.1)∧w.cell? ⟨b,o+1,none⟩=some (.int .i64 a.2.1)∧w.cell? ⟨b,o+2,none⟩=some (.int .i64 a.2.2.1)∧w.cell? ⟨b,o+3,none⟩=some (.int .i64 a.2.2.2)
theorem cells4.later {w w':World}{b o B:Nat}{a:Ar}(h:cells4 w b o a)(hb:Below B w w')(hB:b<B):cells4 w' b o a:=⟨(hb.cell hB).trans h.1,(hb.cell hB).trans h.2.1,(hb.cell hB).trans h.2.2.1,(hb.cell hB).trans h.2.2.2⟩
theorem jjbl {B:Nat}{w w':World}(h:Below B w.drew w'):Below B w w':=⟨h.os,h.tape,h.output,h.size,h.block⟩
def HeldJ (b off d:Nat)(x y:Ar)(w:World):Prop:=cells4 w b (off+(d+1)*4) x∧cells4 w b (off+d*4) y
theorem isSorted_any (va:Value)(l:List Ar)(w:World)(h:Arcs w va l)(hl:l.length≤4398046511104)(r:Bool)(hr:sortB l=r):
  Calls Tryz.prog 139 #[va,.func (.func 140) #[] #[]] w fun e w'=>e= .returned (.bool r)∧Below w.heap.size w w':=by
 obtain⟨a,cap,rfl,hc⟩:=h.get
 have eg:∀ ar W,(callFunc 140 ar).run Tryz.prog W= .ok (.enter 140 ar) W:=enters_of Tryz.func140 (by kernel_rfl) rfl;by_cases hz:0<l.length
 ·have HC:Hid (∀ j,j<l.length→∃ b off,a=some ⟨b,off,none⟩∧b<w.heap.size∧cells4 w b (off+j*4) (el l j)):=hc
  have HR:Hid (sortB l=r):=hr;clear h hc hr;generalize hn:l.length=n at *;have HN:Hid (l.length=n):=hn;clear hn;have hn1:(n:Int)-1=((n-1:Nat):Int):=by omega
  have hn0:n-1<n:=by omega
  go_enter Tryz.func139,Tryz.ntmps139;go_wp2;go_loopw [5] (fun i wr=>∃ c:Nat,c<n∧i= .int .i64 c∧Hid (∀ j,c≤j→j+1<n→aheadB (el l (j+1)) (el l j)=false)∧Below w.heap.size w wr) (fun i _=>(intOf i).toNat)
  case atStart=>exact ⟨n-1,hn0,by rw[← hn1],(fun j h1 h2=>by omega),Below.refl _ _⟩
  case round=>
   obtain⟨c,hcn,rfl,hok,hb⟩:=hrel
   by_cases hc0:0<c
   ·obtain ⟨d,rfl⟩:∃ d,c=d+1:=⟨c-1,by omega⟩
    obtain⟨b,off,rfl,hbl,g1⟩:=HC.out (d+1) hcn
    obtain⟨b2,off2,he,_,g2⟩:=HC.out d (by omega)
    injection he with he
    injection he with he1 he2 _
    subst he1 he2;have HS:Hid (HeldJ b off d (el l (d+1)) (el l d) wr):=⟨g1.later hb hbl,g2.later hb hbl⟩
    have HS0:HeldJ b off d (el l (d+1)) (el l d) wr.drew:=HS.out;have k1:(0:Int)≤(d:Int)+1:=by omega
    have k2:(d:Int)+1<(n:Int):=by omega
    have k3:(0:Int)≤(d:Int):=by omega
    have k4:(d:Int)<(n:Int):=by omega
    have k5:IntKind.i64.wrap (d:Int)=(d:Int):=wrapK (by omega) (by omega);clear g1 g2;generalize hv:orI (cmpI (el l (d+1)).1 (el l d).1) (cmpI (el l (d+1)).2.1 (el l d).2.1) (cmpI (el l (d+1)).2.2.2 (el l d).2.2.2) (cmpI (el l (d+1)).2.2.1 (el l d).2.2.1)=v
    have HV:Hid (orI (cmpI (el l (d+1)).1 (el l d).1) (cmpI (el l (d+1)).2.1 (el l d).2.1) (cmpI (el l (d+1)).2.2.2 (el l d).2.2.2) (cmpI (el l (d+1)).2.2.1 (el l d).2.2.1)=v):=hv;have hva:decide (v<0)=aheadB (el l (d+1)) (el l d):=by rw[← hv];exact orI_neg _ _
    clear hv;rcases jjam (aheadB (el l (d+1)) (el l d))with ha | ha
    ·have HO:Hid (false=r):=by
      show _=_;rw[← HR.out];rcases jjam (sortB l)with hq | hq
      ·have:=sortB_iff.1 hq d (by rw[HN.out];omega)
       rw[ha]at this;cases this
      ·exact hq.symm
     rw[ha]at hva;have hneg:v<0:=by simpa using hva
     clear ha hva hok;generalize hx:el l (d+1)=x at HS HS0 HV;generalize hy:el l d=y at HS HS0 HV;clear hx hy;go_wp2;refine jjaf (HeldJ b off d x y) 1000 (by kernel_rfl) ?_
     refine jjaa (v:=?v0_1) aZ0 ?y0_1 HS0 ?r0_1
     case y0_1=>intro wx hx;obtain⟨⟨x0,x1,x2,x3⟩,⟨y0,y1,y2,y3⟩⟩:=hx;go_simp;try (with_reducible rfl)
     simp only[Act.put,sA,sB,sC];refine jjaa (v:=?v1_2) aZ1 ?y1_2 HS0 ?r1_2
     case y1_2=>intro wx hx;obtain⟨⟨x0,x1,x2,x3⟩,⟨y0,y1,y2,y3⟩⟩:=hx;go_simp;try (with_reducible rfl)
     simp only[Act.put,sA,sB,sC];refine jjaa (v:=?v2_3) aZ2 ?y2_3 HS0 ?r2_3
     case y2_3=>intro wx hx;obtain⟨⟨x0,x1,x2,x3⟩,⟨y0,y1,y2,y3⟩⟩:=hx;go_simp;try (with_reducible rfl)
     simp only[Act.put,sA,sB,sC];refine jjaa (v:=?v3_4) aZ3 ?y3_4 HS0 ?r3_4
     case y3_4=>intro wx hx;obtain⟨⟨x0,x1,x2,x3⟩,⟨y0,y1,y2,y3⟩⟩:=hx;go_simp;try (with_reducible rfl)
     simp only[Act.put,sA,sB,sC];refine jjaa (v:=?v4_5) aZ4 ?y4_5 HS0 ?r4_5
     case y4_5=>intro wx hx;obtain⟨⟨x0,x1,x2,x3⟩,⟨y0,y1,y2,y3⟩⟩:=hx;go_simp;try (with_reducible rfl)
     simp only[Act.put,sA,sB,sC];refine jjaa (v:=?v5_6) aZ5 ?y5_6 HS0 ?r5_6
     case y5_6=>intro wx hx;obtain⟨⟨x0,x1,x2,x3⟩,⟨y0,y1,y2,y3⟩⟩:=hx;go_simp;try (with_reducible rfl)
     simp only[Act.put,sA,sB,sC];refine jjaa (v:=?v6_7) aZ6 ?y6_7 HS0 ?r6_7
     case y6_7=>intro wx hx;obtain⟨⟨x0,x1,x2,x3⟩,⟨y0,y1,y2,y3⟩⟩:=hx;go_simp;try (with_reducible rfl)
     simp only[Act.put,sA,sB,sC];refine jjaa (v:=?v7_8) aZ7 ?y7_8 HS0 ?r7_8
     case y7_8=>intro wx hx;obtain⟨⟨x0,x1,x2,x3⟩,⟨y0,y1,y2,y3⟩⟩:=hx;go_simp;try (with_reducible rfl)
     simp only[Act.put,sA,sB,sC];refine jjaa (v:=?v8_9) aZ8 ?y8_9 HS0 ?r8_9
     case y8_9=>intro wx hx;obtain⟨⟨x0,x1,x2,x3⟩,⟨y0,y1,y2,y3⟩⟩:=hx;go_simp;try (with_reducible rfl)
     simp only[Act.put,sA,sB,sC];refine jjaa (v:=?v9_10) aZ9 ?y9_10 HS0 ?r9_10
     case y9_10=>intro wx hx;obtain⟨⟨x0,x1,x2,x3⟩,⟨y0,y1,y2,y3⟩⟩:=hx;go_simp;try (with_reducible rfl)
     simp only[Act.put,sA,sB,sC];refine jjab aZ10 (fun K hK=>?_)
     go_simp;refine(jjft x y _ v HV.out).mono ?_
     rintro e w1 ⟨rfl,hb1⟩
     have HB1:Hid (Below w.heap.size w w1):=hb.trans ((jjbl hb1).mono hb.size);have HS1:HeldJ b off d x y w1:=⟨HS.out.1.later (jjbl hb1) (Nat.lt_of_lt_of_le hbl hb.size),HS.out.2.later (jjbl hb1) (Nat.lt_of_lt_of_le hbl hb.size)⟩
     refine hK _ _ (.inr HS1) ?_
     try simp only[Act.put,sA,sB,sC]
     refine jjab aZ11 (fun K hK=>?_)
     go_simp;refine hK _ _ (.inr HS1) (jjad (by kernel_rfl) (NoPanic.normal ?_))
     try simp only[Act.put,sA,sB,sC]
     clear HS0 HS1 HS hK;go_wp2;go_ret;exact⟨jjar HO.out,HB1.out⟩
    ·have HO:Hid (∀ j,d≤j→j+1<n→aheadB (el l (j+1)) (el l j)=false):=fun j h1 h2=>by
      by_cases e:j=d
      ·subst e;exact ha
      ·exact hok.out j (by omega) h2
     rw[ha]at hva;have hneg:¬ v<0:=by simpa using hva
     clear ha hva hok;generalize hx:el l (d+1)=x at HS HS0 HV;generalize hy:el l d=y at HS HS0 HV;clear hx hy;go_wp2;refine jjaf (HeldJ b off d x y) 1000 (by kernel_rfl) ?_
     refine jjaa (v:=?v0_11) aZ0 ?y0_11 HS0 ?r0_11
     case y0_11=>intro wx hx;obtain⟨⟨x0,x1,x2,x3⟩,⟨y0,y1,y2,y3⟩⟩:=hx;go_simp;try (with_reducible rfl)
     simp only[Act.put,sA,sB,sC];refine jjaa (v:=?v1_12) aZ1 ?y1_12 HS0 ?r1_12
     case y1_12=>intro wx hx;obtain⟨⟨x0,x1,x2,x3⟩,⟨y0,y1,y2,y3⟩⟩:=hx;go_simp;try (with_reducible rfl)
     simp only[Act.put,sA,sB,sC];refine jjaa (v:=?v2_13) aZ2 ?y2_13 HS0 ?r2_13
     case y2_13=>intro wx hx;obtain⟨⟨x0,x1,x2,x3⟩,⟨y0,y1,y2,y3⟩⟩:=hx;go_simp;try (with_reducible rfl)
     simp only[Act.put,sA,sB,sC];refine jjaa (v:=?v3_14) aZ3 ?y3_14 HS0 ?r3_14
     case y3_14=>intro wx hx;obtain⟨⟨x0,x1,x2,x3⟩,⟨y0,y1,y2,y3⟩⟩:=hx;go_simp;try (with_reducible rfl)
     simp only[Act.put,sA,sB,sC];refine jjaa (v:=?v4_15) aZ4 ?y4_15 HS0 ?r4_15
     case y4_15=>intro wx hx;obtain⟨⟨x0,x1,x2,x3⟩,⟨y0,y1,y2,y3⟩⟩:=hx;go_simp;try (with_reducible rfl)
     simp only[Act.put,sA,sB,sC];refine jjaa (v:=?v5_16) aZ5 ?y5_16 HS0 ?r5_16
     case y5_16=>intro wx hx;obtain⟨⟨x0,x1,x2,x3⟩,⟨y0,y1,y2,y3⟩⟩:=hx;go_simp;try (with_reducible rfl)
     simp only[Act.put,sA,sB,sC];refine jjaa (v:=?v6_17) aZ6 ?y6_17 HS0 ?r6_17
     case y6_17=>intro wx hx;obtain⟨⟨x0,x1,x2,x3⟩,⟨y0,y1,y2,y3⟩⟩:=hx;go_simp;try (with_reducible rfl)
     simp only[Act.put,sA,sB,sC];refine jjaa (v:=?v7_18) aZ7 ?y7_18 HS0 ?r7_18
     case y7_18=>intro wx hx;obtain⟨⟨x0,x1,x2,x3⟩,⟨y0,y1,y2,y3⟩⟩:=hx;go_simp;try (with_reducible rfl)
     simp only[Act.put,sA,sB,sC];refine jjaa (v:=?v8_19) aZ8 ?y8_19 HS0 ?r8_19
     case y8_19=>intro wx hx;obtain⟨⟨x0,x1,x2,x3⟩,⟨y0,y1,y2,y3⟩⟩:=hx;go_simp;try (with_reducible rfl)
     simp only[Act.put,sA,sB,sC];refine jjaa (v:=?v9_20) aZ9 ?y9_20 HS0 ?r9_20
     case y9_20=>intro wx hx;obtain⟨⟨x0,x1,x2,x3⟩,⟨y0,y1,y2,y3⟩⟩:=hx;go_simp;try (with_reducible rfl)
     simp only[Act.put,sA,sB,sC];refine jjab aZ10 (fun K hK=>?_)
     go_simp;refine(jjft x y _ v HV.out).mono ?_
     rintro e w1 ⟨rfl,hb1⟩
     have HB1:Hid (Below w.heap.size w w1):=hb.trans ((jjbl hb1).mono hb.size);have HS1:HeldJ b off d x y w1:=⟨HS.out.1.later (jjbl hb1) (Nat.lt_of_lt_of_le hbl hb.size),HS.out.2.later (jjbl hb1) (Nat.lt_of_lt_of_le hbl hb.size)⟩
     refine hK _ _ (.inr HS1) ?_
     try simp only[Act.put,sA,sB,sC]
     refine jjab aZ11 (fun K hK=>?_)
     go_simp;refine hK _ _ (.inr HS1) (jjad (by kernel_rfl) (NoPanic.normal ?_))
     try simp only[Act.put,sA,sB,sC]
     clear HS0 HS1 HS hK;go_wp2;go_roundw
     case rel=>exact ⟨d,by omega,by go_num,HO,HB1.out⟩
     case measure=>simp [intOf]
   ·obtain rfl:c=0:=by omega
    have HO:Hid (true=r):=by show _=_;rw[← HR.out];exact(sortB_iff.2 (fun i hi=>hok.out i (Nat.zero_le _) (by rw[← HN.out];exact hi))).symm
    clear hok;go_wp2;go_ret;exact⟨jjar HO.out,hb⟩
 ·obtain rfl:l=[]:=List.eq_nil_of_length_eq_zero (by omega)
  subst hr;go_enter Tryz.func139,Tryz.ntmps139;go_wp2;refine wp_loop_rounds 1 ?_;rw[rounds_succ]
  go_wp2;go_ret;exact⟨rfl,Below.refl _ _⟩
theorem jjb7 (l:List St)(w:World)(hl:∀ j,j<l.length→(el l j).2.length≤4398046511104):AskS 102 #[] (fun s=>sortB s.2) l w:=by
 refine⟨enters_of Tryz.func102 (by kernel_rfl) rfl,fun j hj W va hW hA=>?_⟩
 have HL:Hid ((el l j).2.length≤4398046511104):=hl j hj;generalize el l j=s at *;obtain⟨f,ar⟩:=s
 simp only at hA HL ⊢;show Calls _ _ #[.agg #[.int .i64 f,va]] W _;obtain⟨a,cap,rfl⟩:=hA.sl
 have HA:Hid (Arcs W (.slice a ar.length cap) ar):=hA;clear hA;go_enter Tryz.func102,Tryz.ntmps102;go_wp2_with (first | (go_at_call 139;(with_reducible refine(isSorted_any _ ar _ (HA.out.later (B:=W.heap.size) (by go_grown) (Nat.le_refl _)) HL.out _ rfl).mono ?_);rintro e w1 ⟨rfl,hb⟩;obtain⟨s1,b1,hb1⟩:=boxed hb (by simp)));go_ret;exact⟨rfl,hb1⟩
end Go.Proofs.YtppkiejhhmahcaaGreatDoor.Wt
