/- Facts, joined. -/
import Derived.Test.YtppkiejhhmahcaaGreatDoorSao
import Derived.Test.YtppkiejhhmahcaaGreatDoorSas
set_option linter.unusedSimpArgs false
set_option linter.unusedVariables false
set_option maxHeartbeats 6400000
set_option maxRecDepth 100000
namespace Go.Proofs.YtppkiejhhmahcaaGreatDoor.Wt
open ChangeShapes WideShapes ChangeAt RowKit Pl
theorem GridP.setO {w:World}{base n G:Nat}{gs:List Nat}{d:List (List Int)}(h:GridP w base n G gs d){b:Nat}(hb:b<base)(o:Nat)(v:Value):GridP (w.setCell ⟨b,o,none⟩ v) base n G gs d:=h.keep fun k hk _=>Below.heap_setCell w _ _ k (by show k≠b;omega)
theorem removeP_bad (v:Value)(m:Mc)(w:World)(h:Mach w v m)(hok:okM m)(r:Int)(hr:faultM m=r)(h0:r≠0):
  Calls Tryz.prog 21 #[v] w fun e w'=>RatRes (0,[]) r w e w':=by
 obtain⟨z,l⟩:=m
 obtain⟨vs,rfl,hS⟩:=h
 obtain⟨a,cap,rfl⟩:=hS.sl
 have HM:Hid (Mach w (.agg #[.int .i64 z,.slice a l.length cap]) (z,l)):=⟨_,rfl,hS⟩
 have HK:Hid (okM (z,l)):=hok;have HR:Hid (faultM (z,l)=r):=hr;have hne:(r !=0)=true:=by simpa using h0
 clear hS hok hr h0;simp only;generalize l.length=n at *;go_enter Tryz.func21,Tryz.ntmps21;go_wp2_with (first
   | (go_at_call 45;(with_reducible refine(jjal _ (z,l) _ (HM.out.later (B:=w.heap.size) (by go_grown) (Nat.le_refl _)) HK.out _ HR.out).mono ?_);rintro e w1 ⟨rfl,hb⟩;obtain⟨s1,k0,k1,hb1⟩:=boxedTwo hb (by simp);have HB1:Hid (Below w.heap.size w w1):=hb1;have e0:=k1.cell 0 (v:= .int .i64 0) rfl;have e1:=k1.cell 1 (v:= .slice none 0 0) rfl;have e2:=k1.fz 0;have e3:=k1.fz 1;clear hb hb1 k0 k1))
 exact bodyPost_ret (v:= .tuple #[.agg #[.int .i64 0,.slice none 0 0],.int .i64 r]) (by simp[results,Tryz.results21,go_sem, *]) rfl ⟨_,rfl,jja5 _,by have h:=HB1.out;go_grown⟩
theorem removeP_ok (v:Value)(m:Mc)(w:World)(h:Mach w v m)(hok:okM m)(hr:faultM m=0)(H:Nat→Nat→Int)(hH:HopT m H):
    Calls Tryz.prog 21 #[v] w fun e w'=>RatRes (if ovTo H m.2 m.2.length=true then(0,[]) else fitM (remM H m)) (if ovTo H m.2 m.2.length=true then 4 else fitE (remM H m)) w e w':=by
  obtain⟨z,l⟩:=m
  obtain⟨vs,rfl,hS⟩:=h
  obtain⟨a,cap,rfl⟩:=hS.sl
  have h60:l.length≤60:=(jjae hr).1;have HM:Hid (Mach w (.agg #[.int .i64 z,.slice a l.length cap]) (z,l)):=⟨_,rfl,hS⟩
  have HK:Hid (okM (z,l)):=hok;have HR:Hid (faultM (z,l)=0):=hr;have HHB:Hid (∀ q p,q<l.length→p<l.length→0≤H q p∧(H q p=noneI∨H q p≤100000000000)):=fun q p hq hp=>(hH q p hq hp).bd
  have HHO:Hid (∀ K:Nat→Nat→Int,HopT (z,l) K→∀ q p,q<l.length→p<l.length→H q p=K q p):=fun K hK q p hq hp=>(hH q p hq hp).one (hK q p hq hp)
  have HHP:=hidP (fun(W:World) (hW:Mach W (.agg #[.int .i64 z,.slice a l.length cap]) (z,l))=>hopsOf_any z l a cap W hW hr);have HGA:=hidP (fun g q (r:List Int) (W:World) (hW:Mach W (.agg #[.int .i64 z,.slice a l.length cap]) (z,l)) hg hrl (hq:q<l.length) hH=>gathered_any z l a cap g q r H W hW hr hg hrl hH (fun p hp=>HHB.out q p hq hp))
  have HTS:Hid (∀ k,k<l.length→arcN ((gatM H (z,l)).2.take (k+1))=arcN ((gatM H (z,l)).2.take k)+(ligL (remArc H l k l.length)).length):=fun k hk=>gat_take H (z,l) hk
  have HTL:Hid (∀ k,(ligL (remArc H l k l.length)).length≤400):=fun k=>gat_len400 (m:=(z,l)) hr H k
  have HTB:Hid (∀ k,k≤l.length→arcN ((gatM H (z,l)).2.take k)≤k*400):=fun k hk=>by
    induction k with
    | zero=>simp [arcN]
    | succ k ih=>
      rw[HTS.out k (by omega)]
      have:=HTL.out k
      have:=ih (by omega);omega
  have HTE:Hid (arcN ((gatM H (z,l)).2.take l.length)=arcN (gatM H (z,l)).2):=by show _=_;rw[List.take_of_length_le (by rw[jjcd];exact Nat.le_refl _)]
  have HTR:Hid (arcN (gatM H (z,l)).2=arcN (remM H (z,l)).2):=gat_arcN H (z,l);have HGR:Hid (ovTo H l l.length=false→arcN (gatM H (z,l)).2≤400→faultM (gatM H (z,l))=0):=fun ho hs=>gat_right (m:=(z,l)) hr (fun q p hq hp=>HHB.out q p hq hp) ho hs
  have HGK:Hid (okM (gatM H (z,l))):=gat_okM hr H;have HGE:Hid (∀ q,q<l.length→el (gatM H (z,l)).2 q=(tldN (remFin H l q l.length),ligL (remArc H l q l.length))):=fun q hq=>gat_el H (z,l) hq
  have HGL:Hid ((gatM H (z,l)).2.length=l.length):=jjcd H (z,l);have HGS:Hid (mapM (sortS false) (gatM H (z,l))=remM H (z,l)):=gat_sort H (z,l);have HG1:Hid ((gatM H (z,l)).1=z):=rfl;have HRL:Hid ((remM H (z,l)).2.length=l.length):=jjdl H (z,l);have HOS:Hid (∀ k,ovTo H l (k+1)=(ovTo H l k||ovB H l k)):=fun k=>rfl
  have HOT:Hid (∀ k,k<l.length→ovB H l k=true→ovTo H l l.length=true):=fun k hk g=>ovTo_true hk g
  have HO0:Hid (ovTo H l 0=false):=rfl;have HT0:Hid (arcN ((gatM H (z,l)).2.take 0)=0):=by show _=_;simp[arcN]
  have HSB:Hid (∀ M:Mc,M.2.length=l.length→sizeB M=decide (arcN M.2≤400)):=fun M hM=>by simp[sizeB,hM,h60]
  clear hS hok hr hH;simp only;generalize gatM H (z,l)=GM at *;generalize remM H (z,l)=RM at *;generalize hn:l.length=n at *;have HN:=hidP hn;clear hn;obtain⟨RX,hRX⟩:∃ RX,(if ovTo H l n=true then(0,[]) else fitM RM)=RX:=⟨_,rfl⟩
  obtain⟨RE,hRE⟩:∃ RE,(if ovTo H l n=true then 4 else fitE RM)=RE:=⟨_,rfl⟩
  rw[hRX,hRE];have HXO:Hid (ovTo H l n=true→RX=(0,[])∧RE=4):=fun g=>by rw[if_pos g]at hRX hRE;exact⟨hRX.symm,hRE.symm⟩
  have HXN:Hid (ovTo H l n=false→RX=fitM RM∧RE=fitE RM):=fun g=>by
    have g':¬ ovTo H l n=true:=by rw[g];simp
    rw[if_neg g']at hRX hRE;exact⟨hRX.symm,hRE.symm⟩
  clear hRX hRE;have hmk:=run_states n (by omega);go_enter Tryz.func21,Tryz.ntmps21;go_wp2_with (first
      | (go_at_call 45;(with_reducible refine(jjal _ (z,l) _ (HM.out.later (B:=w.heap.size) (by go_grown) (Nat.le_refl _)) HK.out _ HR.out).mono ?_);rintro e w1 ⟨rfl,hb⟩;obtain⟨s1,k0,k1,hb1⟩:=boxedTwo hb (by simp);have HB1:Hid (Below w.heap.size w w1):=hb1;have K0:Hid (Blk w1 w.heap.size #[.int .i64 z,.slice a n cap] 24):=k0;have K1:Hid (Blk w1 (w.heap.size+1) #[.int .i64 0,.slice none 0 0] 24):=k1;have c0:=k0.cell 0 (v:= .int .i64 z) rfl;have c1:=k0.cell 1 (v:= .slice a n cap) rfl;have s2:w.heap.size<w1.heap.size:=(by omega);have s3:w.heap.size+1<w1.heap.size:=(by omega);clear hb hb1 k0 k1)
      | (go_at_call 46;(with_reducible refine(HHP.out _ (HM.out.later (B:=w.heap.size) (by have h:=HB1.out;go_grown) (Nat.le_refl _))).mono ?_);rintro e w2 ⟨rfl,⟨gs,d,hG,hdl,hHT⟩,hb2⟩;have HG:=hidP hG;have HHE:=hidP (HHO.out _ hHT);have HB2:=hidP hb2;clear hG hHT hb2))
  simp only[World.size_alloc]at HG HB2;clear hmk c0 c1;have hNA:Below w1.heap.size w1 (w1.alloc (.cells ((List.replicate n ((0:Int),Value.slice none 0 0)).flatMap encS).toArray 45)):=(Below.refl _ _).alloc (Nat.le_refl _) _;have hB12:Below w1.heap.size w1 w2:=hNA.trans (HB2.out.mono (by omega))
  have hBS:Blk w2 w1.heap.size ((List.replicate n ((0:Int),Value.slice none 0 0)).flatMap encS).toArray 45:=(Blk.made w1 _ _).below HB2.out (by omega);have HBS:=hidP hBS;have HB3:=hidP (HB1.out.trans (hB12.mono HB1.out.size));have K02:=hidP (K0.out.below hB12 s2);have K12:=hidP (K1.out.below hB12 s3);have hs2:w1.heap.size+1≤w2.heap.size:=by have:=HB2.out.size;simp at this;omega
  clear hNA hB12 hBS HB1 HB2 K0 K1
  go_loopw [6,24] (fun av i wr=>∃ (k:Nat) (vs:List (Int × Value)),k≤n∧av= .int .i64 ((arcN (GM.2.take k):Nat):Int)∧i= .int .i64 k∧vs.length=n∧Hid (ovTo H l k=false)∧Hid (Blk wr w1.heap.size (vs.flatMap encS).toArray 45)∧Hid (∀ j,j<k→(el vs j).1=tldN (remFin H l j n)∧wr.ownsRow (w1.heap.size+1) 56 4 (el vs j).2 (ligL (remArc H l j n)).length ((ligL (remArc H l j n)).flatMap encA))∧Hid (GridP wr (w1.heap.size+1+1) n (w1.heap.size+1+1) gs d)∧Hid (Blk wr w.heap.size #[.int .i64 z,.slice a n cap] 24)∧Hid (Blk wr (w.heap.size+1) #[.int .i64 0,.slice none 0 0] 24)∧Hid (Below w.heap.size w wr)∧w1.heap.size+1≤wr.heap.size) (fun _ i _=>n-(intOf i).toNat)
  case atStart=>exact ⟨0,List.replicate n ((0:Int),Value.slice none 0 0),Nat.zero_le _,by rw[HT0.out];rfl,rfl,by simp,HO0,HBS,fun j hj=>absurd hj (Nat.not_lt_zero _),HG,K02,K12,HB3,hs2⟩
  case round=>
    clear HG K02 K12 HB3 hs2 HBS;obtain⟨k,vs,hk,rfl,rfl,hvl,hov,hbs,hold,hG,hk0,hk1,hb,hws⟩:=hrel
    obtain⟨w4,hw4⟩:∃ w4,w4=wr:=⟨_,rfl⟩
    subst hw4;have HV:=hidP hvl;have harc:=HTB.out k hk;by_cases hlt:k<n
    · have k0':(0:Int)≤(k:Int):=Int.natCast_nonneg _
      have k1':(k:Int)<(n:Int):=by omega
      have cG:=hG.out.rowc (q:=k) (by omega);have hgr:=hG.out.row k (by rw[hG.out.len];omega);have HCG:=hidP (HGA.out (el gs k) k (el d k) w4 (HM.out.later hb.out (Nat.le_refl _)) hgr.2.2 hgr.2.1 hlt (fun p hp=>HHE.out k p hlt hp));have m0:=hk0.out.cell 0 (v:= .int .i64 z) rfl;have m1:=hk0.out.cell 1 (v:= .slice a n cap) rfl;have HTSk:=hidP (HTS.out k hlt);have HTLk:=HTL.out k
      have HOk:=hidP (HOT.out k hlt);have HOSk:=hidP (HOS.out k);clear hgr;generalize el gs k=Bq at *;rcases Bool.eq_false_or_eq_true (ovB H l k)with ho | ho
      · -- over
        have HCO:Hid (Calls Tryz.prog 47 #[.agg #[.int .i64 z,.slice a n cap],.slice (some ⟨Bq,0,none⟩) n n] w4 fun e w'=>e= .returned (.tuple #[.agg #[.int .i64 0,.slice none 0 0],.int .i64 4])∧Below w4.heap.size w4 w'):=HCG.out.mono fun e w' hg=>by
          obtain⟨hg,hb⟩:=hg
          rcases hg with⟨_,g⟩ | ⟨g,_⟩
          · exact⟨g,hb⟩
          · rw[ho]at g;cases g
        have HOV:=hidP (HOk.out ho);clear ho HCG;go_wp2_with (first
          | (go_at_call 47;(with_reducible refine HCO.out.mono ?_);rintro e w5 ⟨rfl,hb5⟩;have k5:=hk1.out.below hb5 hk1.out.lt;have r0:=k5.cell 0 (v:= .int .i64 0) rfl;have r1:=k5.cell 1 (v:= .slice none 0 0) rfl;have f0:=k5.fz 0;have f1:=k5.fz 1;have s5:=k5.lt;have HB5:=hidP (hb.out.trans (hb5.mono hb.out.size));clear k5 hb5))
        refine bodyPost_ret (v:= .tuple #[.agg #[.int .i64 0,.slice none 0 0],.int .i64 4]) (by simp[results,Tryz.results21,go_sem, *]) rfl ?_
        rw[(HXO.out HOV.out).1,(HXO.out HOV.out).2];exact⟨_,rfl,jja5 _,by have h:=HB5.out;go_grown⟩
      · have HCO:Hid (Calls Tryz.prog 47 #[.agg #[.int .i64 z,.slice a n cap],.slice (some ⟨Bq,0,none⟩) n n] w4 fun e w'=>∃ x c,e= .returned (.tuple #[.agg #[.int .i64 (tldN (remFin H l k n)),.slice x (ligL (remArc H l k n)).length c],.int .i64 0])∧OwnArcs w' w4.heap.size (.slice x (ligL (remArc H l k n)).length c) (ligL (remArc H l k n))∧Below w4.heap.size w4 w'):=HCG.out.mono fun e w' hg=>by
          obtain⟨hg,hb⟩:=hg
          rcases hg with⟨g,_⟩ | ⟨_,va,g,hO⟩
          · rw[ho]at g;cases g
          · rw[HN.out]at g hO
            obtain⟨x,c,rfl⟩:=hO.sl
            exact⟨x,c,g,hO,hb⟩
        have HOV:Hid (ovTo H l (k+1)=false):=by show _=_;rw[HOSk.out,hov.out,ho];rfl
        clear ho HCG;have HTI:=hidP (HTB.out (k+1) (by omega));obtain⟨fn,hfn⟩:∃ fn,tldN (remFin H l k n)=fn:=⟨_,rfl⟩
        have HFN:=hidP hfn;obtain⟨LN,hLN⟩:∃ LN,ligL (remArc H l k n)=LN:=⟨_,rfl⟩
        have HLN:=hidP hLN;rw[hfn,hLN]at HCO;rw[hLN]at HTSk HTLk;clear hfn hLN;obtain⟨tk,htk⟩:∃ tk,arcN (GM.2.take k)=tk:=⟨_,rfl⟩
        rw[htk]at HTSk harc ⊢;clear htk;generalize hnl:LN.length=nl at *;have HNL:=hidP hnl;clear hnl;have t0:(0:Int)≤(tk:Int):=by omega
        have hwr:IntKind.i64.wrap ((tk:Int)+(nl:Int))=(tk:Int)+(nl:Int):=wrapI (by omega) (by omega);go_wp2_with (first
          | (go_at_call 47;(with_reducible refine HCO.out.mono ?_);rintro e w5 ⟨xa,xc,rfl,hO5,hb5⟩;have HB5:=hidP hb5;have HO5:=hidP hO5;have hbs5:=hbs.out.below hb5 (by omega);have e0:=hbs5.cell (k*2) (v:= .int .i64 (el vs k).1) (by rw[List.getElem?_toArray];exact jjas jja9 vs k (by rw[HV.out];omega) 0 (by omega));have e1:=hbs5.cell (k*2+1) (v:=(el vs k).2) (by rw[List.getElem?_toArray];exact jjas jja9 vs k (by rw[HV.out];omega) 1 (by omega));have f0:=hbs5.fz (k*2);have f1:=hbs5.fz (k*2+1);have s5:w1.heap.size<w5.heap.size:=hbs5.lt;have HBS5:=hidP hbs5;clear hbs5 hb5 hO5))
        go_roundw
        case rel=>
          have hA:Below (w5.setCell ⟨w1.heap.size,k*2,none⟩ (.int .i64 fn) |>.setCell ⟨w1.heap.size,k*2+1,none⟩ (.slice xa nl xc)).heap.size (w5.setCell ⟨w1.heap.size,k*2,none⟩ (.int .i64 fn) |>.setCell ⟨w1.heap.size,k*2+1,none⟩ (.slice xa nl xc)) ((w5.setCell ⟨w1.heap.size,k*2,none⟩ (.int .i64 fn) |>.setCell ⟨w1.heap.size,k*2+1,none⟩ (.slice xa nl xc)).alloc (.cells #[.int .i64 fn,.slice xa nl xc] 45)):=(Below.refl _ _).alloc (Nat.le_refl _) _
          refine⟨k+1,vs.set k (fn,.slice xa nl xc),by omega,?_,by go_num,by simp;exact HV.out,HOV,?_,?_,?_,?_,?_,?_,?_⟩
          · rw[HTSk.out];simp
          · have h:=(HBS5.out.set (k*2) (.int .i64 fn)).set (k*2+1) (.slice xa nl xc)
            rw[jjfr (by rw[HV.out];omega) (fn,.slice xa nl xc)]at h;exact h.alloc _
          · intro j hj
            rw[el_setS (by rw[HV.out];omega)];by_cases hjk:j=k
            · subst hjk
              rw[if_pos rfl,HFN.out,HLN.out];have h9:w5.ownsRow (w1.heap.size+1) 56 4 (.slice xa nl xc) LN.length (LN.flatMap encA):=own_mono HO5.out hws;exact⟨rfl,jjco (ownsRow_setCell_below (ownsRow_setCell_below h9 (Nat.lt_succ_self _) _) (Nat.lt_succ_self _) _) hA⟩
            · rw[if_neg hjk]
              obtain⟨q1,q2⟩:=hold.out j (by omega)
              exact⟨q1,jjco (ownsRow_setCell_below (ownsRow_setCell_below (jjco q2 HB5.out) (Nat.lt_succ_self _) _) (Nat.lt_succ_self _) _) hA⟩
          · exact(((hG.out.later HB5.out).setO (by omega) _ _).setO (by omega) _ _).later hA
          · exact(((hk0.out.below HB5.out hk0.out.lt).setO _ _ (by show w.heap.size≠w1.heap.size;omega)).setO _ _ (by show w.heap.size≠w1.heap.size;omega)).alloc _
          · exact(((hk1.out.below HB5.out hk1.out.lt).setO _ _ (by show w.heap.size+1≠w1.heap.size;omega)).setO _ _ (by show w.heap.size+1≠w1.heap.size;omega)).alloc _
          · have h9:=((hb.out.trans (HB5.out.mono hb.out.size)).setCell (p:=⟨w1.heap.size,k*2,none⟩) (by show w.heap.size≤w1.heap.size;omega) (.int .i64 fn)).setCell (p:=⟨w1.heap.size,k*2+1,none⟩) (by show w.heap.size≤w1.heap.size;omega) (.slice xa nl xc)
            exact h9.alloc h9.size _
          · have:=HB5.out.size
            simp[World.setCell];omega
        case measure=>simp [intOf];omega
    · have k1':¬ (k:Int)<(n:Int):=by omega
      obtain rfl:n=k:=by omega
      have HOF:=hidP hov.out;have ht:arcN (GM.2.take n)=arcN RM.2:=by rw[HTE.out,HTR.out]
      rw[ht]at harc ⊢;have hz:=HSB.out RM HRL.out;by_cases hbig:arcN RM.2≤400
      · have hfe:fitE RM=0:=by unfold fitE;rw[hz,decide_eq_true hbig];rfl
        have hfm:fitM RM=RM:=by unfold fitM;rw[hz,decide_eq_true hbig];rfl
        have hFG:=HGR.out hov.out (by rw[HTR.out];exact hbig);have HFG:=hidP hFG;have hM2:Mach w4 (.agg #[.int .i64 z,.slice (some ⟨w1.heap.size,0,none⟩) n n]) GM:=by
          have h:=jjfs (l:=GM.2) (B:=w1.heap.size+1) (w:=w4) hbs.out (by rw[HGL.out];exact hvl) (fun j hj=>by
            rw[HGL.out]at hj
            rw[HGE.out j hj]
            exact hold.out j hj)
          rw[HGL.out]at h;exact⟨_,by rw[HG1.out],h⟩
        have HCS:=hidP (sorted_any _ GM w4 hM2 HGK.out 0 hFG);have HRE:Hid (resM 0 (mapM (sortS false) GM)=RM):=by show _=_;rw[HGS.out];rfl
        rw[HRE.out]at HCS;have c0:=hk0.out.cell 0 (v:= .int .i64 z) rfl;have hgt:¬ ((arcN RM.2:Nat):Int) > 400:=by omega
        have HFE:=hidP hfe;have HFM:=hidP hfm;have HB:=hidP hb.out;have HK1:=hidP hk1.out;clear hfe hfm hz hold hbs hM2 hFG HRE hk0 ht hov hG;generalize hRn:arcN RM.2=rn at *;clear hRn;go_wp2_with (first
          | (go_at_call 48;(with_reducible refine HCS.out.mono ?_);rintro e w5 ⟨v5,rfl,hm5,hb5⟩;obtain⟨a5,c5,rfl⟩:=hm5.sl;have k5:=HK1.out.below hb5 HK1.out.lt;have r0:=k5.cell 0 (v:= .int .i64 0) rfl;have r1:=k5.cell 1 (v:= .slice none 0 0) rfl;have f0:=k5.fz 0;have f1:=k5.fz 1;have s5:=k5.lt;have HB5:=hidP (HB.out.trans (hb5.mono HB.out.size));have HM5:=hidP hm5;clear k5 hb5 hm5))
        refine bodyPost_ret (v:= .tuple #[.agg #[.int .i64 RM.1,.slice a5 RM.2.length c5],.int .i64 0]) (by simp[results,Tryz.results21,go_sem, *]) rfl ?_
        rw[(HXN.out HOF.out).1,(HXN.out HOF.out).2,HFE.out,HFM.out];exact⟨_,rfl,((HM5.out.set (a:=⟨w.heap.size+1,0,none⟩) (by show w.heap.size+1<w4.heap.size;omega) _).set (a:=⟨w.heap.size+1,1,none⟩) (by show w.heap.size+1<w4.heap.size;omega) _).mach,by have h:=HB5.out;go_grown⟩
      · have hfe:fitE RM=5:=by unfold fitE;rw[hz,decide_eq_false hbig];rfl
        have hfm:fitM RM=(0,[]):=by unfold fitM;rw[hz,decide_eq_false hbig];rfl
        have hgt:((arcN RM.2:Nat):Int) > 400:=by omega
        have HFE:=hidP hfe;have HFM:=hidP hfm;have HB:=hidP hb.out;have r0:=hk1.out.cell 0 (v:= .int .i64 0) rfl;have r1:=hk1.out.cell 1 (v:= .slice none 0 0) rfl;have f0:=hk1.out.fz 0;have f1:=hk1.out.fz 1;clear hfe hfm hz hold hbs hk0 ht hov hG;generalize hRn:arcN RM.2=rn at *;clear hRn;go_wp2
        refine bodyPost_ret (v:= .tuple #[.agg #[.int .i64 0,.slice none 0 0],.int .i64 5]) (by simp[results,Tryz.results21,go_sem, *]) rfl ?_
        rw[(HXN.out HOF.out).1,(HXN.out HOF.out).2,HFE.out,HFM.out];exact⟨_,rfl,jja5 _,by have h:=HB.out;go_grown⟩
theorem removeP_any (v:Value)(m:Mc)(w:World)(h:Mach w v m)(hok:okM m)(H:Nat→Nat→Int)(hH:faultM m=0→HopT m H):
  Calls Tryz.prog 21 #[v] w fun e w'=>RatRes (remR H m) (remE H m) w e w':=by
 unfold remR remE;by_cases h0:faultM m=0
 ·have e1:¬ faultM m≠0:=fun g=>g h0
  rw[if_neg e1,if_neg e1];exact removeP_ok v m w h hok h0 H (hH h0)
 ·rw [if_pos h0,if_pos h0]
  exact removeP_bad v m w h hok _ rfl h0
end Wt
namespace Pl
abbrev Hg (α:Type):=Int × Int × Int × α
section
variable {α:Type} [DecidableEq α]
def addG (L:List α)(t:α):List α:=if t ∈ L then L else L++[t]
def arcG (L:List α)(h:Hg α):Ar:=(h.1,h.2.1,h.2.2.1,(L.idxOf h.2.2.2:Int))
def numH :List (Hg α)→List α→Nat→Int × List α × List Ar
 | [],L,_=>(0,L,[])
 | h::hs,L,n=>if 1000000000<h.2.2.1 then(4,[],[]) else if 400<n+1∨60<(addG L h.2.2.2).length then(5,[],[]) else((numH hs (addG L h.2.2.2) (n+1)).1,(numH hs (addG L h.2.2.2) (n+1)).2.1,arcG L h::(numH hs (addG L h.2.2.2) (n+1)).2.2)
theorem addG_ext (L:List α)(t:α):∃ E,addG L t=L++E:=by
 unfold addG;split
 ·exact ⟨[],by simp⟩
 ·exact ⟨[t],rfl⟩
theorem jje1 (L:List α)(t:α):t ∈ addG L t:=by
 unfold addG;split
 ·assumption
 ·simp
theorem jjdh {L:List α}(h:L.Nodup)(t:α):(addG L t).Nodup:=by
 unfold addG;split
 ·exact h
 ·rename_i g
  rw[List.nodup_append];refine⟨h,by simp,fun x hx y hy e=>?_⟩
  simp only[List.mem_singleton]at hy;exact g (by rw[← hy,← e];exact hx)
theorem jjd4 {L:List α}{t:α}(h:t ∈ L):addG L t=L:=if_pos h
theorem jjd5 {L:List α}{t:α}(h:t ∉ L):addG L t=L++[t]:=if_neg h
theorem addG_len (L:List α)(t:α):L.length≤(addG L t).length∧(addG L t).length≤L.length+1:=by
 unfold addG;split
 ·omega
 ·simp
theorem idxG_ext {L E:List α}{t:α}(h:t ∈ L):(L++E).idxOf t=L.idxOf t:=by
 rw[List.idxOf_append,if_pos h]
theorem jje2 (L:List α)(t:α):(addG L t).idxOf t=L.idxOf t:=by
 unfold addG;split
 ·rfl
 ·rename_i g
  rw[List.idxOf_append,if_neg g,List.idxOf_eq_length g];simp
theorem jje3 {L:List α}{t:α}(h:t ∉ L):L.idxOf t=L.length:=List.idxOf_eq_length h
theorem jjcp (hs:List (Hg α)):∀ (L:List α) (n:Nat),L.Nodup→(numH hs L n).1=0→(∃ E,(numH hs L n).2.1=L++E)∧(numH hs L n).2.1.Nodup∧(∀ h ∈ hs,h.2.2.2 ∈ (numH hs L n).2.1∧h.2.2.1≤1000000000)∧(numH hs L n).2.2=hs.map (arcG (numH hs L n).2.1)∧(L.length≤60→(numH hs L n).2.1.length≤60)∧(n≤400→n+hs.length≤400):=by
  induction hs with
  | nil=>intro L n h _;exact⟨⟨[],by simp[numH]⟩,h,fun h hh=>(by cases hh),rfl,fun h=>h,fun h=>h⟩
  | cons h hs ih=>
    intro L n hL h0;simp only[numH]at h0 ⊢;by_cases c1:1000000000<h.2.2.1
    · rw[if_pos c1]at h0
      cases h0
    · rw[if_neg c1]at h0 ⊢
      by_cases c2:400<n+1∨60<(addG L h.2.2.2).length
      · rw[if_pos c2]at h0
        cases h0
      · rw[if_neg c2]at h0 ⊢
        simp only at h0 ⊢;obtain⟨⟨E,e1⟩,h2,h3,h4,h5,h6⟩:=ih _ (n+1) (jjdh hL h.2.2.2) h0
        obtain⟨D,e2⟩:=addG_ext L h.2.2.2
        have hin:h.2.2.2 ∈ (numH hs (addG L h.2.2.2) (n+1)).2.1:=by
          rw[e1];exact List.mem_append_left _ (jje1 _ _)
        refine⟨⟨D++E,by rw[e1,e2,List.append_assoc]⟩,h2,fun k hk=>?_,?_,fun _=>h5 (by omega),fun _=>?_⟩
        · rcases List.mem_cons.1 hk with rfl | hk
          · exact⟨hin,by omega⟩
          · exact h3 k hk
        · simp only[List.map_cons]
          rw[h4];congr 1
          simp only[arcG];rw[e1,idxG_ext (jje1 _ _),jje2]
        · have:=h6 (by omega)
          simp only[List.length_cons];omega
theorem numH_led (hs:List (Hg α)):∀ (L:List α) (n:Nat),(numH hs L n).1=0→∀ t ∈ (numH hs L n).2.1,t ∈ L∨∃ h ∈ hs,h.2.2.2=t:=by
  induction hs with
  | nil=>intro L n _ t ht;exact .inl ht
  | cons h hs ih=>
    intro L n h0 t ht;simp only[numH]at h0 ht;by_cases c1:1000000000<h.2.2.1
    · rw[if_pos c1]at h0
      cases h0
    · rw[if_neg c1]at h0 ht
      by_cases c2:400<n+1∨60<(addG L h.2.2.2).length
      · rw[if_pos c2]at h0
        cases h0
      · rw[if_neg c2]at h0 ht
        rcases ih _ _ h0 t ht with g | ⟨k,hk,e⟩
        · by_cases m:h.2.2.2 ∈ L
          · rw[jjd4 m]at g;exact .inl g
          · rw[jjd5 m]at g
            rcases List.mem_append.1 g with g | g
            · exact .inl g
            · simp only[List.mem_singleton]at g
              exact .inr ⟨h,List.mem_cons_self,g.symm⟩
        · exact .inr ⟨k,List.mem_cons_of_mem _ hk,e⟩
end
section
variable {α:Type} [DecidableEq α] [Inhabited α]
variable (fin:α→Int × Int) (hops:α→List (Hg α))
def numS :Nat→Nat→List α→List St→Nat→Mc × Int
  | 0,_,_,_,_=>((0,[]),5)
  | k+1,q,L,S,n=>
    if q<L.length then
      if(fin (el L q)).2≠0 then((0,[]),(fin (el L q)).2)
      else if(numH (hops (el L q)) L n).1≠0 then((0,[]),(numH (hops (el L q)) L n).1)
      else numS k (q+1) (numH (hops (el L q)) L n).2.1 (S++[((fin (el L q)).1,(numH (hops (el L q)) L n).2.2)]) (n+(hops (el L q)).length)
    else((0,S),0)
def numA (s0:α):Mc × Int:=numS fin hops 61 0 [s0] [] 0
variable {fin} {hops}
theorem jjb6 {L:List α}(hn:L.Nodup){k:Nat}(h:k<L.length):L.idxOf (el L k)=k:=by
  induction L generalizing k with
  | nil=>simp at h
  | cons x L ih=>
    rw[List.nodup_cons]at hn;cases k with
    | zero=>simp [el]
    | succ k=>
      have hk:k<L.length:=by simpa using h
      have e9:el (x::L) (k+1)=el L k:=by simp[el]
      have hne:¬ x=el L k:=fun e=>hn.1 (by rw[e];exact jjac hk)
      rw[e9,List.idxOf_cons];have hb:(x==el L k)=false:=by simpa using hne
      rw[hb,ih hn.2 hk];rfl
theorem jjck {L:List α}{t:α}(h:t ∈ L):L.idxOf t<L.length∧el L (L.idxOf t)=t:=by
 have h1:L.idxOf t<L.length:=List.idxOf_lt_length_iff.2 h;exact⟨h1,by rw[jjaj h1];exact List.getElem_idxOf h1⟩
structure ExpI (fin:α→Int × Int)(hops:α→List (Hg α))(s0:α)(q:Nat)(L:List α)(S:List St):Prop where
 nodup:L.Nodup
 le:q≤L.length
 l60:L.length≤60
 len:S.length=q
 start:∃ E,L=s0::E
 right:∀ i,i<q→(fin (el L i)).2=0
 low:∀ i,i<q→∀ h ∈ hops (el L i),h.2.2.1≤1000000000
 shut:∀ i,i<q→∀ h ∈ hops (el L i),h.2.2.2 ∈ L
 sts:∀ i,i<q→el S i=((fin (el L i)).1,(hops (el L i)).map (arcG L))
 led:∀ i,0<i→i<L.length→∃ j h,j<i∧j<q+1∧h ∈ hops (el L j)∧h.2.2.2=el L i
theorem ExpI.init (fin:α→Int × Int)(hops:α→List (Hg α))(s0:α):ExpI fin hops s0 0 [s0] []:=⟨by simp,by simp,by simp,rfl,⟨[],rfl⟩,fun i hi=>by omega,fun i hi=>by omega,fun i hi=>by omega,fun i hi=>by omega,fun i h0 hi=>by simp at hi;omega⟩
theorem ExpI.step {s0:α}{q:Nat}{L:List α}{S:List St}{n:Nat}(h:ExpI fin hops s0 q L S)(hq:q<L.length)(he:(fin (el L q)).2=0)(h0:(numH (hops (el L q)) L n).1=0):
  ExpI fin hops s0 (q+1) (numH (hops (el L q)) L n).2.1 (S++[((fin (el L q)).1,(numH (hops (el L q)) L n).2.2)]):=by
 obtain⟨⟨E,e1⟩,h2,h3,h4,h5,_⟩:=jjcp (hops (el L q)) L n h.nodup h0
 have h6:=numH_led (hops (el L q)) L n h0;have h5:=h5 h.l60;rw[h4];generalize (numH (hops (el L q)) L n).2.1=L' at *;subst e1;have hel:∀ i,i<L.length→el (L++E) i=el L i:=fun i hi=>jjec hi
 refine⟨h2,by simp;omega,h5,by simp[h.len],?_,fun i hi=>?_,fun i hi k hk=>?_,fun i hi k hk=>?_,fun i hi=>?_,fun i hp hi=>?_⟩
 ·obtain ⟨D,e⟩:=h.start
  exact⟨D++E,by rw[e];rfl⟩
 ·rw [hel i (by omega)]
  rcases Nat.lt_succ_iff_lt_or_eq.1 hi with g | rfl
  ·exact h.right i g
  ·exact he
 ·rw [hel i (by omega)]at hk
  rcases Nat.lt_succ_iff_lt_or_eq.1 hi with g | rfl
  ·exact h.low i g k hk
  ·exact (h3 k hk).2
 ·rw [hel i (by omega)]at hk
  rcases Nat.lt_succ_iff_lt_or_eq.1 hi with g | rfl
  ·exact List.mem_append_left _ (h.shut i g k hk)
  ·exact (h3 k hk).1
 ·rw [hel i (by omega)]
  rcases Nat.lt_succ_iff_lt_or_eq.1 hi with g | rfl
  ·rw [jjec (by rw[h.len];exact g),h.sts i g]
   congr 1
   refine List.map_congr_left fun k hk=>?_
   simp only[arcG];rw[idxG_ext (h.shut i g k hk)]
  ·have:=h.len
   subst this;rw[el_appendE]
 ·by_cases hl:i<L.length
  ·obtain ⟨j,k,g1,g2,g3,g4⟩:=h.led i hp hl
   exact⟨j,k,g1,by omega,by rw[hel j (by omega)];exact g3,by rw[hel i hl];exact g4⟩
  ·have hm:el (L++E) i ∈ L++E:=jjac hi
   rcases h6 _ hm with g | ⟨k,hk,e⟩
   ·obtain ⟨j,hj,ej⟩:=List.getElem_of_mem g
    have h7:=jjb6 h2 hi;have h8:=jjb6 h2 (k:=j) (by simp;omega);rw[hel j hj,jjaj hj,ej,h7]at h8;omega
   ·exact ⟨q,k,by omega,by omega,by rw[hel q hq];exact hk,e⟩
theorem numS_done {s0:α}:∀ (k q:Nat) (L:List α) (S:List St) (n:Nat) (x:Mc),ExpI fin hops s0 q L S→numS fin hops k q L S n=(x,0)→x.1=0∧∃ L',(∃ E,L'=L++E)∧ExpI fin hops s0 L'.length L' x.2:=by
  intro k;induction k with
  | zero=>intro q L S n x h e;simp only[numS,Prod.mk.injEq]at e;exact absurd e.2 (by decide)
  | succ k ih=>
    intro q L S n x h e;simp only[numS]at e;split at e
    · rename_i hq
      split at e
      · rename_i he
        simp only[Prod.mk.injEq]at e;exact absurd e.2 he
      · rename_i he
        split at e
        · rename_i h0;simp only[Prod.mk.injEq]at e;exact absurd e.2 h0
        · rename_i h0
          have h0':(numH (hops (el L q)) L n).1=0:=by simpa using h0
          obtain⟨h1,L',⟨E,e2⟩,h2⟩:=ih _ _ _ _ _ (h.step hq (by simpa using he) h0') e
          obtain⟨⟨D,e3⟩,_⟩:=jjcp (hops (el L q)) L n h.nodup h0'
          exact⟨h1,L',⟨D++E,by rw[e2,e3,List.append_assoc]⟩,h2⟩
    · rename_i hq
      simp only[Prod.mk.injEq]at e;obtain⟨rfl,_⟩:=e
      have:q=L.length:=by have:=h.le;omega
      subst this;exact⟨rfl,L,⟨[],by simp⟩,h⟩
theorem jjfu {s0:α}{x:Mc}(h:numA fin hops s0=(x,0)):x.1=0∧∃ L,ExpI fin hops s0 L.length L x.2:=by
 obtain⟨h1,L,_,h2⟩:=numS_done _ _ _ _ _ _ (ExpI.init fin hops s0) h
 exact⟨h1,L,h2⟩
inductive HopG (hops:α→List (Hg α))(s0:α):List Int→List Int→α→Nat→Prop
 | nil:HopG hops s0 [] [] s0 0
 | snoc {u v:List Int} {t:α} {c:Nat} {h:Hg α}:HopG hops s0 u v t c→h ∈ hops t→HopG hops s0 (u++lab h.1) (v++lab h.2.1) h.2.2.2 (c+h.2.2.1.toNat)
theorem ExpI.zero {s0:α}{q:Nat}{L:List α}{S:List St}(h:ExpI fin hops s0 q L S):0<L.length∧el L 0=s0∧L.idxOf s0=0:=by
 obtain⟨E,rfl⟩:=h.start
 exact⟨by simp,by simp[el],by simp⟩
theorem ExpI.hop {s0:α}{L:List α}{S:List St}(h:ExpI fin hops s0 L.length L S){u v:List Int}{t:α}{c:Nat}(hw:HopG hops s0 u v t c):t ∈ L∧Way S 0 u v (L.idxOf t) c:=by
  induction hw with
  | nil=>
    obtain⟨h1,h2,h3⟩:=h.zero
    rw[h3];exact⟨by obtain⟨E,rfl⟩:=h.start;simp,.nil⟩
  | snoc hw hh ih=>
    rename_i u v t c k
    obtain⟨i1,i2⟩:=ih
    obtain⟨g1,g2⟩:=jjck i1
    have hk:k ∈ hops (el L (L.idxOf t)):=by rw[g2];exact hh
    refine⟨h.shut _ g1 k hk,?_⟩
    have hm:arcG L k ∈ (el S (L.idxOf t)).2:=by
      rw[h.sts _ g1];exact List.mem_map_of_mem hk
    exact i2.snoc hm rfl
theorem ExpI.hopAt {s0:α}{L:List α}{S:List St}(h:ExpI fin hops s0 L.length L S){u v:List Int}{t:α}{c:Nat}(hw:HopG hops s0 u v t c):∃ i,i<L.length∧el L i=t∧Way S 0 u v i c:=by
 obtain⟨h1,h2⟩:=h.hop hw
 obtain⟨h3,h4⟩:=jjck h1
 exact⟨_,h3,h4,h2⟩
theorem ExpI.way {s0:α}{L:List α}{S:List St}(h:ExpI fin hops s0 L.length L S){u v:List Int}{p c:Nat}(hw:Way S 0 u v p c):p<L.length∧HopG hops s0 u v (el L p) c:=by
  induction hw with
  | nil=>
    obtain⟨h1,h2,h3⟩:=h.zero
    rw[h2];exact⟨h1,.nil⟩
  | snoc hw ha ht ih=>
    rename_i u v p c a t
    obtain⟨i1,i2⟩:=ih
    rw[h.sts p i1]at ha;obtain⟨k,hk,rfl⟩:=List.mem_map.1 ha
    have ht':L.idxOf k.2.2.2=t:=by simp only[arcG]at ht;omega
    obtain⟨g1,g2⟩:=jjck (h.shut p i1 k hk)
    rw[ht']at g1 g2;refine⟨g1,?_⟩
    rw[g2];exact i2.snoc hk
end
end Go.Proofs.YtppkiejhhmahcaaGreatDoor.Pl
