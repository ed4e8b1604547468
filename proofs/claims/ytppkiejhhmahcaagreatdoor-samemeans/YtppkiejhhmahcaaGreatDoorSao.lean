/- Facts, joined. -/
import Derived.Test.YtppkiejhhmahcaaGreatDoorSan
import Derived.Deep.DeepCutAuto
set_option linter.unusedSimpArgs false
set_option linter.unusedVariables false
set_option maxHeartbeats 6400000
set_option maxRecDepth 100000
namespace Go.Proofs.YtppkiejhhmahcaaGreatDoor.Wt
open ChangeShapes WideShapes ChangeAt RowKit Maps Pl
def HeldV (g p:Nat)(x:Int)(s:Nat)(f:Int)(w:World):Prop:=w.cell? ⟨g,p,none⟩=some (.int .i64 x)∧w.cell? ⟨s,0,none⟩=some (.int .i64 f)
def HeldX (g p:Nat)(x:Int)(s:Nat)(f:Int)(w:World):Prop:=w.cell? ⟨g,p,none⟩=some (.int .i64 x)∧w.cell? ⟨s,2,none⟩=some (.int .i64 f)
theorem endR_told {b:Int}{va:Value}(h:b=noneI∨b≤102000000000):(tldE b=0→endR (toA b) va=(.agg #[.int .i64 (tldN b),va],0))∧(tldE b≠0→endR (toA b) va=(.agg #[.int .i64 0,.slice none 0 0],4)):=by
 by_cases e:b=noneI
 ·subst e
  exact⟨fun _=>rfl,fun g=>absurd rfl g⟩
 ·have e1:toA b=b:=by unfold toA;rw[if_neg e]
  have e2:¬ b=aptI:=by unfold aptI;unfold noneI at *;omega
  unfold tldE tldN endR;rw[e1,if_neg e,if_neg e,if_neg e2];by_cases g:1000000000<b
  ·rw [if_pos g,if_pos g,if_pos g]
   exact⟨fun h=>absurd h (by decide),fun _=>rfl⟩
  ·rw [if_neg g,if_neg g,if_neg g]
   exact⟨fun _=>rfl,fun h=>absurd rfl h⟩
def GatRes (H:Nat→Nat→Int)(l:List St)(q:Nat)(w:World)(e:Ending)(w':World):Prop:=
 ((ovB H l q=true∧e= .returned (.tuple #[.agg #[.int .i64 0,.slice none 0 0],.int .i64 4]))∨
  (ovB H l q=false∧∃ va,e= .returned (.tuple #[.agg #[.int .i64 (tldN (remFin H l q l.length)),va],.int .i64 0])∧OwnArcs w' w.heap.size va (ligL (remArc H l q l.length))))∧Below w.heap.size w w'
theorem gathered_any (z:Int)(l:List St)(a:Option Addr)(cap g q:Nat)(r:List Int)(H:Nat→Nat→Int)(w:World)(h:Mach w (.agg #[.int .i64 z,.slice a l.length cap]) (z,l))(hr:faultM (z,l)=0)(hg:Blk w g ((rowA r).map (Value.int .i64)).toArray 3)(hrl:r.length=l.length)(hH:∀ p,p<l.length→H q p=el r p)(hb:∀ p,p<l.length→0≤H q p∧(H q p=noneI∨H q p≤100000000000)):
  Calls Tryz.prog 47 #[.agg #[.int .i64 z,.slice a l.length cap],.slice (some ⟨g,0,none⟩) l.length l.length] w fun e w'=>GatRes H l q w e w':=by
 obtain⟨vs',hvs,hS⟩:=h
 simp only[Value.agg.injEq,Array.mk.injEq,List.cons.injEq,and_true,true_and]at hvs;subst hvs;obtain⟨a',cap',hsl,hc⟩:=hS.get
 simp only[Value.slice.injEq,true_and]at hsl;obtain⟨rfl,rfl⟩:=hsl
 have h60:l.length≤60:=(jjae hr).1;have HC:Hid (∀ j,j<l.length→∃ b off va,a=some ⟨b,off,none⟩∧b<w.heap.size∧w.cell? ⟨b,off+j*2,none⟩=some (.int .i64 (el l j).1)∧w.cell? ⟨b,off+j*2+1,none⟩=some va∧Arcs w va (el l j).2):=hc;have hfin:∀ p,p<l.length→0≤(el l p).1∧(el l p).1≤1000000001:=fun p hp=>by
  have:=(jjbv hr hp).1;simp only[finB,inB,Bool.or_eq_true,Bool.and_eq_true,decide_eq_true_eq]at this;omega
 have HFI:=hidP hfin;have HFB:=hidP (jjfn hb hfin);have HHB:=hidP hb;have HHC:Hid (∀ p,p<l.length→w.cell? ⟨g,p,none⟩=some (.int .i64 (toA (H q p)))):=fun p hp=>by
  have:=jjba hg (j:=p) (by rw[rowA_len,hrl];exact hp);rw[el_rowA (by rw[hrl];exact hp),← hH p hp]at this;exact this
 have hgl:=hg.lt;have HAL:Hid (∀ j,j<l.length→(el l j).2.length≤400):=fun j hj=>(jja7 hr j hj).2.1
 have HAR:Hid (∀ j,j<l.length→∀ i,i<(el l j).2.length→0≤(el (el l j).2 i).2.2.1∧(el (el l j).2 i).2.2.1≤1000000000∧Sm3 (ky3 (el (el l j).2 i))):=fun j hj i hi=>by
  have h3:=(jjag hr).2 (el l j) (jjac hj);simp only[stB,Bool.and_eq_true,List.all_eq_true]at h3;have h4:=h3.2 _ (jjac hi);simp only[arcB,inB,Bool.and_eq_true,decide_eq_true_eq]at h4;unfold Sm3 ky3;simp only;omega
 have HLL:Hid (∀ p,p≤l.length→(remArc H l q p).length≤400):=fun p hp=>remArc_len (m:=(z,l)) hr H q p hp
 have HFS:Hid (∀ p,H q p=noneI∨(el l p).1=1000000001→remFin H l q (p+1)=remFin H l q p):=fun p h=>remFin_skip h
 have HFM:Hid (∀ p,H q p≠noneI→(el l p).1≠1000000001→remFin H l q (p+1)=if H q p+(el l p).1<remFin H l q p then H q p+(el l p).1 else remFin H l q p):=fun p h g=>remFin_more h g
 have HAS:Hid (∀ p,H q p=noneI→remArc H l q (p+1)=remArc H l q p):=fun p h=>remArc_skip h
 have HAM:Hid (∀ p,H q p≠noneI→remArc H l q (p+1)=remArc H l q p++remOf (H q p) (el l p).2):=fun p h=>remArc_more h
 have HF0:Hid (toA (remFin H l q 0)=4611686018427387903):=rfl;have HA0:Hid (ligL (remArc H l q 0)=[]):=rfl;have HOV:Hid (ovB H l q=true↔(ligL (remArc H l q l.length)).any bigA=true∨tldE (remFin H l q l.length)≠0):=ovB_iff;have HGR:Hid (∀ e w',GatRes H l q w e w'=(((ovB H l q=true∧e= .returned (.tuple #[.agg #[.int .i64 0,.slice none 0 0],.int .i64 4]))∨
  (ovB H l q=false∧∃ va,e= .returned (.tuple #[.agg #[.int .i64 (tldN (remFin H l q l.length)),va],.int .i64 0])∧OwnArcs w' w.heap.size va (ligL (remArc H l q l.length))))∧Below w.heap.size w w')):=fun _ _=>rfl
 have HLS:Hid (∀ (w7 w8:World) (T:List Ar) (y:Int),LigM w7 (w.heap.size+2) (w.heap.size+1+1+1) T→Below w7.heap.size w7 w8→LigM (w8.setCell ⟨w7.heap.size,2,none⟩ (.int .i64 y)).drew (w.heap.size+2) (w.heap.size+1+1+1) T):=fun w7 w8 T y h hb=>h.later ((hb.setCell (p:=⟨w7.heap.size,2,none⟩) (Nat.le_refl _) _).drew)
 clear hS hc hr hg hrl hH hb hfin;generalize GatRes H l q w=GR at *;generalize ovB H l q=ov at *;generalize hFF:remFin H l q=FF at *;generalize hAA:remArc H l q=AA at *;generalize hHH:H q=HH at *;clear hFF hAA hHH;generalize hn:l.length=n at *;have HN:=hidP hn;clear hn;go_enter Tryz.func47,Tryz.ntmps47
 go_wp2_with (go_at_call 92;(with_reducible refine(jjfo _).mono ?_);rintro e w1 ⟨rfl,hL1,hb1⟩;obtain⟨s1,k0,k1,hb1'⟩:=boxedTwo hb1 (by simp);have HL1:=hidP hL1;have HB1:=hidP hb1';have K0:=hidP k0;have K1:=hidP k1;have c1:=k0.cell 1 (v:= .slice a n cap) rfl;clear hL1 hb1 hb1' k0 k1);simp only[World.size_alloc]at HL1;clear c1
 go_loopw [6,16] (fun fv i wr=>∃ (p:Nat),p≤n∧fv= .int .i64 (toA (FF p))∧i= .int .i64 p∧Hid (LigM wr (w.heap.size+2) (w.heap.size+1+1+1) (ligL (AA p)))∧Hid (Blk wr w.heap.size #[.int .i64 z,.slice a n cap] 24)∧Hid (Blk wr (w.heap.size+1) #[.int .i64 0,.slice none 0 0] 45)∧Hid (Below w.heap.size w wr)) (fun _ i _=>n-(intOf i).toNat)
 case atStart=>exact ⟨0,Nat.zero_le _,by rw[HF0.out],rfl,by rw[HA0.out];exact HL1,K0,K1,HB1⟩
 case round=>
  clear HL1 K0 K1 HB1 HF0 HA0;obtain⟨p,hp,rfl,rfl,hL,hK0,hK1,hb⟩:=hrel
  obtain⟨w4,hw4⟩:∃ w4,w4=wr:=⟨_,rfl⟩
  subst hw4;by_cases hlt:p<n
  ·have p0:(0:Int)≤(p:Int):=by omega
   have p1:(p:Int)<(n:Int):=by omega
   obtain⟨b,off,va,rfl,hbl,g0,g1,gA⟩:=HC.out p hlt
   have g0:=(hb.out.cell (p:=⟨b,off+p*2,none⟩) hbl).trans g0;have g1:=(hb.out.cell (p:=⟨b,off+p*2+1,none⟩) hbl).trans g1;have hx0:=HHC.out p hlt;have hx:=(hb.out.cell (p:=⟨g,p,none⟩) hgl).trans hx0;have hL4:=hL.out.lt;obtain⟨av,nv,cv,hva⟩:∃ av nv cv,va= .slice av nv cv:=by
    obtain⟨x,y,hx⟩:=Row.sl gA
    exact⟨x,_,y,hx⟩
   have HAV:=hidP (gA.later hb.out (Nat.le_refl _));have HA00:=hidP gA;have HFp:=hidP (HFS.out p);have HFm:=hidP (HFM.out p);have HAp:=hidP (HAS.out p);have HAm:=hidP (HAM.out p);have hcb:=HHB.out p hlt;have hfb:=HFI.out p hlt;have hF0b:=HFB.out p (by omega);have hal:=HAL.out p hlt;have HARp:=hidP (HAR.out p hlt);have HL0:=hidP (HLL.out p (by omega));clear gA;obtain⟨f,hf⟩:∃ f,(el l p).1=f:=⟨_,rfl⟩
   rw[hf]at g0 HFp HFm hfb;clear hf;obtain⟨ar,har⟩:∃ ar,(el l p).2=ar:=⟨_,rfl⟩
   rw[har]at HAV HA00 HAm hal HARp;clear har;obtain⟨c,hcc⟩:∃ c,HH p=c:=⟨_,rfl⟩
   rw[hcc]at hx hx0 HFp HFm HAp HAm hcb;clear hcc;by_cases hcn:c=noneI
   ·have hca:toA c=4611686018427387903:=by rw[hcn];rfl
    rw[hca]at hx;have e1:=HFp.out (.inl hcn);have e2:=HAp.out hcn;have HE1:=hidP e1;have HE2:=hidP e2;clear hcn hca e1 e2 hcb;subst hva;have hx5:=(((Below.refl w4.heap.size w4).alloc (Nat.le_refl _) (.cells #[.int .i64 f,.slice av nv cv] 45)).cell (p:=⟨g,p,none⟩) (Nat.lt_of_lt_of_le hgl hb.out.size)).trans hx;go_wp2;go_roundw
    case rel=>exact ⟨p+1,by omega,by rw[HE1.out],by go_num,by rw[HE2.out];exact hL.out.later ((Below.refl _ _).alloc (Nat.le_refl _) _),hK0.out.alloc _,hK1.out.alloc _,hb.out.alloc hb.out.size _⟩
    case measure=>simp [intOf];omega
   ·have hca:toA c=c:=by unfold toA;rw[if_neg hcn]
    have hcl:c≤100000000000:=by rcases hcb.2 with h | h;exact absurd h hcn;exact h
    have hc0:=hcb.1;rw[hca]at hx hx0;have hne:(c==4611686018427387903)=false:=by simp;omega
    have E2:=hidP (HAm.out hcn);have HFm':=hidP (HFm.out hcn);subst hva;obtain⟨a5,cap5,hsl5,hc5⟩:=HAV.out.get
    simp only[Value.slice.injEq]at hsl5;obtain⟨rfl,rfl,rfl⟩:=hsl5
    have HC5:=hidP hc5;have HC5b:Hid (∀ j,j<ar.length→∃ b off,av=some ⟨b,off,none⟩∧b<w.heap.size∧w.cell? ⟨b,off+j*4,none⟩=some (.int .i64 (el ar j).1)∧w.cell? ⟨b,off+j*4+1,none⟩=some (.int .i64 (el ar j).2.1)∧w.cell? ⟨b,off+j*4+2,none⟩=some (.int .i64 (el ar j).2.2.1)∧w.cell? ⟨b,off+j*4+3,none⟩=some (.int .i64 (el ar j).2.2.2)):=by
     obtain⟨a7,c7,h7,h8⟩:=HA00.out.get
     simp only[Value.slice.injEq]at h7;obtain⟨rfl,_,_⟩:=h7
     exact h8
    clear HA00;clear HFm HAp HAm hca hcb hc5 HAV;obtain⟨F0,hF0⟩:∃ F0,FF p=F0:=⟨_,rfl⟩
    rw[hF0]at HFp HFm' hF0b ⊢;clear hF0;obtain⟨LA,hLA⟩:∃ LA,AA p=LA:=⟨_,rfl⟩
    rw[hLA]at hL E2 HL0;clear hLA;generalize hn5:ar.length=n5 at *;have HN5:=hidP hn5;clear hn5 hcn;have hNA:Below w4.heap.size w4 (w4.alloc (.cells #[.int .i64 f,.slice av n5 cv] 45)):=(Below.refl _ _).alloc (Nat.le_refl _) _;have HNA:=hidP hNA;have HKS:=hidP (Blk.made w4 #[.int .i64 f,.slice av n5 cv] 45);have kS:=HKS.out.cell 0 (v:= .int .i64 f) rfl
    have hx5:=(hNA.cell (p:=⟨g,p,none⟩) (Nat.lt_of_lt_of_le hgl hb.out.size)).trans hx;clear hNA;go_upto_if 28 with fail
    go_cut [6] (fun t wx=>t= .int .i64 (toA (FF (p+1)))∧Hid (Below w4.heap.size w4 wx)∧Hid (Blk wx w4.heap.size #[.int .i64 f,.slice av n5 cv] 45))
    case first=>
     by_cases hfi:f=1000000001
     ·have hfi':(f !=1000000001)=false:=by simp[hfi]
      have HE:=hidP (HFp.out (.inr hfi));clear hfi;go_wp2;go_meet
      case rel=>exact ⟨by rw[HE.out],HNA,HKS⟩
     ·have hfi':(f !=1000000001)=true:=by simpa using hfi
      have hwr:IntKind.i64.wrap (c+f)=c+f:=wrapI (by omega) (by omega);have HE:=hidP (HFm'.out hfi);have HTA:=hidP (toA_fin hF0b.2 hcl (by omega:f≤1000000000));rw[← HE.out]at HTA;clear hfi;go_wp2;have HS:HeldV g p c w4.heap.size f (w4.alloc (.cells #[.int .i64 f,.slice av n5 cv] 45)).drew:=⟨hx5,kS⟩
      refine jjaf (HeldV g p c w4.heap.size f) 1000 (by kernel_rfl) ?_
      refine jjaa (v:=?v0_1) aZ0 ?y0_1 HS ?r0_1
      case y0_1=>intro wx hx;obtain⟨h0,h1⟩:=hx;go_simp;try (with_reducible rfl)
      simp only[Act.put,sA,sB,sC];refine jjaa (v:=?v1_2) aZ1 ?y1_2 HS ?r1_2
      case y1_2=>intro wx hx;obtain⟨h0,h1⟩:=hx;go_simp;try (with_reducible rfl)
      simp only[Act.put,sA,sB,sC];refine jjaa (v:=?v2_3) aZ2 ?y2_3 HS ?r2_3
      case y2_3=>intro wx hx;obtain⟨h0,h1⟩:=hx;go_simp;try (with_reducible rfl)
      simp only[Act.put,sA,sB,sC];refine jjaa (v:=?v3_4) aZ3 ?y3_4 HS ?r3_4
      case y3_4=>intro wx hx;obtain⟨h0,h1⟩:=hx;go_simp;try (with_reducible rfl)
      simp only[Act.put,sA,sB,sC];refine jjaa (v:=?v4_5) aZ4 ?y4_5 HS ?r4_5
      case y4_5=>intro wx hx;obtain⟨h0,h1⟩:=hx;go_simp;try (with_reducible rfl)
      simp only[Act.put,sA,sB,sC];refine jjaa (v:=?v5_6) aZ5 ?y5_6 HS ?r5_6
      case y5_6=>intro wx hx;obtain⟨h0,h1⟩:=hx;go_simp;try (with_reducible rfl)
      simp only[Act.put,sA,sB,sC];refine jjaa (v:=?v6_7) aZ6 ?y6_7 HS ?r6_7
      case y6_7=>intro wx hx;obtain⟨h0,h1⟩:=hx;go_simp;try (with_reducible rfl)
      simp only[Act.put,sA,sB,sC];refine jjaa (v:=?v7_8) aZ7 ?y7_8 HS ?r7_8
      case y7_8=>intro wx hx;obtain⟨h0,h1⟩:=hx;go_simp;try (with_reducible rfl)
      simp only[Act.put,sA,sB,sC];refine jjaa (v:= .int .i64 (toA (FF (p+1)))) aZ8 ?y8_18 HS ?r8_18
      case y8_18=>intro wx hx;obtain⟨h0,h1⟩:=hx;go_simp;rw[HTA.out]
      simp only[Act.put,sA,sB,sC];refine jjaa (v:=?v9_9) aZ9 ?y9_9 HS ?r9_9
      case y9_9=>intro wx hx;obtain⟨h0,h1⟩:=hx;go_simp;try (with_reducible rfl)
      simp only[Act.put,sA,sB,sC];refine jjad (by kernel_rfl) (NoPanic.normal ?_)
      try simp only[Act.put,sA,sB,sC]
      clear HS;go_wp2;go_meet
      case rel=>exact ⟨rfl,HNA.out.drew,HKS.out.drew⟩
    case rest=>
     obtain⟨rfl,hb6,hK6⟩:=hcut
     obtain⟨w6,hw6⟩:∃ w6,w6=wc:=⟨_,rfl⟩
     subst hw6;clear HNA HKS kS hx5 HFp HFm' g0 g1;have k1:=hK6.out.cell 1 (v:= .slice av n5 cv) rfl;have HL6:=hidP (hL.out.later hb6.out);have HB6:=hidP (hb.out.trans (hb6.out.mono hb.out.size));have HK06:=hidP (hK0.out.below hb6.out hK0.out.lt);have HK16:=hidP (hK1.out.below hb6.out hK1.out.lt);have HB46:=hidP (hb6.out.mono (Nat.le_of_lt hL4))
     have HT0:Hid (ligL LA=ligL (LA++remOf c (ar.take 0))):=by show _=_;simp[remOf]
     have HTS:Hid (∀ i,i<n5→empA (el ar i)=true→ligL (LA++remOf c (ar.take (i+1)))=ligL (LA++remOf c (ar.take i))):=fun i hi he=>lig_take (by rw[HN5.out];exact hi) he
     have HTN:Hid (∀ i,i<n5→empA (el ar i)=false→ligL (LA++remOf c (ar.take (i+1)))=laddL (ligL (LA++remOf c (ar.take i))) (hwA c (el ar i))):=fun i hi he=>lig_next (by rw[HN5.out];exact hi) he
     have HTE:Hid (ligL (LA++remOf c (ar.take n5))=ligL (AA (p+1))):=by show _=_;rw[E2.out,← HN5.out,List.take_length]
     have HTL:Hid (∀ i,(ligL (LA++remOf c (ar.take i))).length<100000∧ApaL (ligL (LA++remOf c (ar.take i)))):=fun i=>by
      have h1:=lig_le (LA++remOf c (ar.take i));have h2:=remOf_le c (ar.take i);have h3:(ar.take i).length≤n5:=by rw[List.length_take,HN5.out];omega
      have h4:=HL0.out;rw[List.length_append]at h1;exact⟨by omega,(jjfm _).1⟩
     obtain⟨TT,hTT⟩:∃ TT:Nat→List Ar,∀ i,ligL (LA++remOf c (ar.take i))=TT i:=⟨_,fun _=>rfl⟩
     simp only[hTT]at HT0 HTS HTN HTE HTL;rw[HT0.out]at HL6;have hBW4:=hidP hb.out;have HX0:=hidP hx0;have HC6:=hidP HC5b.out;have HK04:=hidP hK0.out;have HK14:=hidP hK1.out;clear hTT HT0 E2 HL0 hL hb hK0 hK1 hb6 hF0b hx;go_wp2;clear k1
     go_loopw [41] (fun iv wr=>∃ (i:Nat),i≤n5∧iv= .int .i64 i∧Hid (LigM wr (w.heap.size+2) (w.heap.size+1+1+1) (TT i))∧Hid (Below (w.heap.size+2) w4 wr)) (fun i _=>n5-(intOf i).toNat)
     case atStart=>exact ⟨0,Nat.zero_le _,rfl,HL6,HB46⟩
     case round=>
      clear HL6 HB46;obtain⟨i,hi,rfl,hL,hb7⟩:=hrel
      obtain⟨w7,hw7⟩:∃ w7,w7=wr:=⟨_,rfl⟩
      subst hw7;have hbw:=hidP (hBW4.out.trans (hb7.out.mono (by omega)));by_cases hil:i<n5
      ·have i0:(0:Int)≤(i:Int):=by omega
       have i1:(i:Int)<(n5:Int):=by omega
       obtain⟨b6,o6,rfl,hb6,q0,q1,q2,q3⟩:=HC6.out i hil
       have q0:=(hbw.out.cell (p:=⟨b6,o6+i*4,none⟩) hb6).trans q0;have q1:=(hbw.out.cell (p:=⟨b6,o6+i*4+1,none⟩) hb6).trans q1;have q2:=(hbw.out.cell (p:=⟨b6,o6+i*4+2,none⟩) hb6).trans q2;have q3:=(hbw.out.cell (p:=⟨b6,o6+i*4+3,none⟩) hb6).trans q3;have hx7:=(hbw.out.cell (p:=⟨g,p,none⟩) hgl).trans HX0.out;obtain⟨ha0,ha1,hsm⟩:=HARp.out i hil
       have HTSi:=hidP (HTS.out i hil);have HTNi:=hidP (HTN.out i hil);obtain⟨hTLi,hAPi⟩:=HTL.out i
       have HSM:=hidP hsm;have HAPi:=hidP hAPi;have HTLi:=hidP hTLi;clear hsm hAPi hTLi;obtain⟨pp,hpp⟩:∃ pp,el ar i=pp:=⟨_,rfl⟩
       rw[hpp]at q0 q1 q2 q3 ha0 ha1 HSM HTSi HTNi;clear hpp;obtain⟨y0,y1,y2,y3⟩:=pp
       simp only at q0 q1 q2 q3 ha0 ha1 HTSi HTNi;have s7:=hL.out.lt;rcases Bool.eq_false_or_eq_true (empA (y0,y1,y2,y3))with he | he
       ·have HE:=hidP (HTSi.out he)
        go_wp2_with (go_at_call 93;(with_reducible refine(jje0 _ _ _ _ _ _ he).mono ?_);rintro e w8 ⟨rfl,hb8⟩;obtain⟨s8,k8,hb8'⟩:=boxed hb8 (by simp);have HB8:=hidP hb8';clear hb8 hb8' k8);go_roundw
        case rel=>exact ⟨i+1,by omega,by go_num,by rw[HE.out];exact hL.out.later HB8.out,hb7.out.trans (HB8.out.mono (Nat.le_of_lt s7))⟩
        case measure=>simp [intOf];omega
       ·have HE:=hidP (HTNi.out he)
        have hwr:IntKind.i64.wrap (y2+c)=y2+c:=wrapI (by omega) (by omega);go_wp2_with (first
         | (go_at_call 93;(with_reducible refine(jje0 _ _ _ _ _ _ he).mono ?_);rintro e w8 ⟨rfl,hb8⟩;obtain⟨s8,k8,hb8'⟩:=boxed hb8 (by simp);have HB8:=hidP hb8';have HK8:=hidP k8;clear hb8 hb8' k8))
        have hx8:=(HB8.out.cell (p:=⟨g,p,none⟩) (Nat.lt_of_lt_of_le hgl hbw.out.size)).trans hx7;have f8:=HK8.out.fz 2;have e8:=HK8.out.cell 2 (v:= .int .i64 y2) rfl;have HK9:=hidP (HK8.out.set 2 (.int .i64 (y2+c)));have HL8:=hidP (hL.out.later HB8.out);have HB78:=hidP (hb7.out.trans (HB8.out.mono (Nat.le_of_lt s7)));have HS:HeldX g p c w7.heap.size y2 w8.drew:=⟨hx8,e8⟩
        refine jjaf (HeldX g p c w7.heap.size y2) 8 (by kernel_rfl) ?_
        refine jjaa (v:=?v0_10) aZ0 ?y0_10 HS ?r0_10
        case y0_10=>intro wx hx;obtain⟨h0,h1⟩:=hx;go_simp;try (with_reducible rfl)
        simp only[Act.put,sA,sB,sC];refine jjaa (v:=?v1_11) aZ1 ?y1_11 HS ?r1_11
        case y1_11=>intro wx hx;obtain⟨h0,h1⟩:=hx;go_simp;try (with_reducible rfl)
        simp only[Act.put,sA,sB,sC];refine jjaa (v:=?v2_12) aZ2 ?y2_12 HS ?r2_12
        case y2_12=>intro wx hx;obtain⟨h0,h1⟩:=hx;go_simp;try (with_reducible rfl)
        simp only[Act.put,sA,sB,sC];refine jjaa (v:=?v3_13) aZ3 ?y3_13 HS ?r3_13
        case y3_13=>intro wx hx;obtain⟨h0,h1⟩:=hx;go_simp;try (with_reducible rfl)
        simp only[Act.put,sA,sB,sC];refine jjaa (v:=?v4_14) aZ4 ?y4_14 HS ?r4_14
        case y4_14=>intro wx hx;obtain⟨h0,h1⟩:=hx;go_simp;try (with_reducible rfl)
        simp only[Act.put,sA,sB,sC];refine jjaa (v:=?v5_15) aZ5 ?y5_15 HS ?r5_15
        case y5_15=>intro wx hx;obtain⟨h0,h1⟩:=hx;go_simp;try (with_reducible rfl)
        simp only[Act.put,sA,sB,sC];refine jjaa (v:=?v6_16) aZ6 ?y6_16 HS ?r6_16
        case y6_16=>intro wx hx;obtain⟨h0,h1⟩:=hx;go_simp;try (with_reducible rfl)
        simp only[Act.put,sA,sB,sC];refine jjaa (v:=?v7_17) aZ7 ?y7_17 HS ?r7_17
        case y7_17=>intro wx hx;obtain⟨h0,h1⟩:=hx;go_simp;try (with_reducible rfl)
        simp only[Act.put,sA,sB,sC];refine jjab aZ8 (fun K hK=>?_)
        obtain⟨h0,h1⟩:=HS
        go_simp;refine hK _ _ (.inl rfl) (jjad (by kernel_rfl) (NoPanic.normal ?_))
        try simp only[Act.put,sA,sB,sC]
        have HL9:Hid (LigM (w8.setCell ⟨w7.heap.size,2,none⟩ (.int .i64 (y2+c))).drew (w.heap.size+2) (w.heap.size+1+1+1) (TT i)):=HLS.out w7 w8 (TT i) (y2+c) hL.out HB8.out;have HB9:Hid (Below (w.heap.size+2) w4 (w8.setCell ⟨w7.heap.size,2,none⟩ (.int .i64 (y2+c))).drew):=(HB78.out.setCell (p:=⟨w7.heap.size,2,none⟩) (Nat.le_of_lt s7) (.int .i64 (y2+c))).drew
        have z0:=HK9.out.cell 0 (v:= .int .i64 y0) rfl;have z1:=HK9.out.cell 1 (v:= .int .i64 y1) rfl;have z2:=HK9.out.cell 2 (v:= .int .i64 (y2+c)) rfl;have z3:=HK9.out.cell 3 (v:= .int .i64 y3) rfl;clear h0 h1 hx8 f8 e8 HK8 HK9 HB8 HL8 HB78;obtain⟨w9,hw9⟩:∃ w9,w9=(w8.setCell ⟨w7.heap.size,2,none⟩ (.int .i64 (y2+c))).drew:=⟨_,rfl⟩
        rw[← hw9]at HL9 HB9;have z0:w9.cell? ⟨w7.heap.size,0,none⟩=some (.int .i64 y0):=by rw[hw9];exact z0
        have z1:w9.cell? ⟨w7.heap.size,1,none⟩=some (.int .i64 y1):=by rw[hw9];exact z1
        have z2:w9.cell? ⟨w7.heap.size,2,none⟩=some (.int .i64 (y2+c)):=by rw[hw9];exact z2
        have z3:w9.cell? ⟨w7.heap.size,3,none⟩=some (.int .i64 y3):=by rw[hw9];exact z3
        rw[← hw9];clear hw9;have HCA:=hidP (addL_any (w.heap.size+2) (w.heap.size+1+1+1) (TT i) y0 y1 (y2+c) y3 w9 HL9.out HAPi.out HTLi.out HSM.out);have HEQ:Hid (laddL (TT i) (y0,y1,y2+c,y3)=TT (i+1)):=by show _=_;rw[HE.out];simp only[hwA];rw[Int.add_comm c y2]
        go_wp2_with (first
         | (go_at_call 94;(with_reducible refine HCA.out.mono ?_);rintro e w10 ⟨rfl,hL10,hb10⟩;have HL10:=hidP hL10;have HB10:=hidP (HB9.out.trans hb10);clear hL10 hb10))
        go_roundw
        case rel=>exact ⟨i+1,by omega,by go_num,by rw[← HEQ.out];exact HL10,HB10⟩
        case measure=>simp [intOf];omega
      ·have i1:¬ (i:Int)<(n5:Int):=by omega
       obtain rfl:n5=i:=by omega
       rw[HTE.out]at hL;go_wp2;go_roundw
       case rel=>exact ⟨p+1,by omega,rfl,by go_num,hL,HK04.out.below hb7.out (by omega),HK14.out.below hb7.out (by omega),hbw.out⟩
       case measure=>simp [intOf];omega
  ·have p1:¬ (p:Int)<(n:Int):=by omega
   obtain rfl:n=p:=by omega
   obtain⟨va,mb,hB,hO,hM,hbb,hbm⟩:=hL.out
   obtain⟨av,cv,hva⟩:=hO.sl
   subst hva;have HET:=hidP (endR_told (va:= .slice av (ligL (AA n)).length cv) (HFB.out n (Nat.le_refl _)).2);have HIO:=hidP (fun r hr=>isOver_any _ _ (ligL (AA n)) w4 hL.out (Nat.lt_of_le_of_lt (Nat.le_trans (lig_le _) (HLL.out n (Nat.le_refl _))) (by omega)) r hr);have HB4:=hidP hB;have HO4:=hidP hO;have bl:=hB.lt;clear hM hB hO hL;obtain⟨FN,hFN⟩:∃ FN,FF n=FN:=⟨_,rfl⟩
   rw[hFN]at HOV HGR HET ⊢;clear hFN HFB HFS HFM;obtain⟨LN,hLN⟩:∃ LN,ligL (AA n)=LN:=⟨_,rfl⟩
   rw[hLN]at HOV HGR HIO HET HB4 HO4;clear hLN;have e0:=hK1.out.cell 0 (v:= .int .i64 0) rfl;have e1:=hK1.out.cell 1 (v:= .slice none 0 0) rfl;rcases Bool.eq_false_or_eq_true (LN.any bigA)with ho | ho
   ·have HO1:=hidP (HIO.out true ho)
    have HOT:=hidP (HOV.out.2 (.inl ho));clear ho HIO HET;generalize LN.length=nl at *;go_wp2_with (first
     | (go_at_call 95;(with_reducible refine HO1.out.mono ?_);rintro e w5 ⟨rfl,hb5⟩;have k5:=hK1.out.below hb5 hK1.out.lt;have r0:=k5.cell 0 (v:= .int .i64 0) rfl;have r1:=k5.cell 1 (v:= .slice none 0 0) rfl;have f0:=k5.fz 0;have f1:=k5.fz 1;have HB5:=hidP (hb.out.trans (hb5.mono hb.out.size));clear k5 hb5))
    refine bodyPost_ret (v:= .tuple #[.agg #[.int .i64 0,.slice none 0 0],.int .i64 4]) (by simp[results,Tryz.results47,go_sem, *]) rfl ?_
    rw[HGR.out];exact⟨.inl ⟨HOT.out,rfl⟩,by have h:=HB5.out;go_grown⟩
   ·have HO1:=hidP (HIO.out false ho)
    have HEN:=hidP (fun f a n c W=>ending_any f a n c W);rcases Decidable.em (tldE FN=0)with ht | ht
    ·have HOF:Hid (ov=false):=by
      show _=_;rcases jjam ov with g | g
      ·rcases HOV.out.1 g with g | g
       ·rw [ho]at g;cases g
       ·exact absurd ht g
      ·exact g
     have e9:=HET.out.1 ht;have HE9:=hidP e9;clear ho HIO ht e9 HET;generalize hnl:LN.length=nl at *;clear hnl;go_wp2_with (first
      | (go_at_call 95;(with_reducible refine HO1.out.mono ?_);rintro e w5 ⟨rfl,hb5⟩;have k5:=HB4.out.below hb5 HB4.out.lt;have r0:=k5.cell 0 (v:= .slice av nl cv) rfl;have HB5:=hidP (hb.out.trans (hb5.mono hb.out.size));have HK5:=hidP (hK1.out.below hb5 hK1.out.lt);have HO5:=hidP (HO4.out.later hb5);clear k5 hb5)
      | (go_at_call 96;(with_reducible refine(HEN.out _ _ _ _ _).mono ?_);rintro e w6 ⟨rfl,hb6⟩;rw[HE9.out];have k6:=HK5.out.below hb6 HK5.out.lt;have r0:=k6.cell 0 (v:= .int .i64 0) rfl;have r1:=k6.cell 1 (v:= .slice none 0 0) rfl;have f0:=k6.fz 0;have f1:=k6.fz 1;have HB6:=hidP (HB5.out.trans (hb6.mono HB5.out.size));have HK6:=hidP k6;have HO6:=hidP (HO5.out.later hb6);clear k6 hb6))
     refine bodyPost_ret (v:= .tuple #[.agg #[.int .i64 (tldN FN),.slice av nl cv],.int .i64 0]) (by simp[results,Tryz.results47,go_sem, *]) rfl ?_
     rw[HGR.out];refine⟨.inr ⟨HOF.out,_,rfl,?_⟩,by have h:=HB6.out;go_grown⟩
     exact(OwnArcs.setS (HO6.out.setS HK6.out 0 _) (HK6.out.set 0 _) 1 _).mono (by omega)
    ·have HOF:Hid (ov=true):=HOV.out.2 (.inr ht)
     have e9:=HET.out.2 ht;have HE9:=hidP e9;clear ho HIO ht e9 HET;generalize hnl:LN.length=nl at *;clear hnl;go_wp2_with (first
      | (go_at_call 95;(with_reducible refine HO1.out.mono ?_);rintro e w5 ⟨rfl,hb5⟩;have k5:=HB4.out.below hb5 HB4.out.lt;have r0:=k5.cell 0 (v:= .slice av nl cv) rfl;have HB5:=hidP (hb.out.trans (hb5.mono hb.out.size));have HK5:=hidP (hK1.out.below hb5 hK1.out.lt);clear k5 hb5)
      | (go_at_call 96;(with_reducible refine(HEN.out _ _ _ _ _).mono ?_);rintro e w6 ⟨rfl,hb6⟩;rw[HE9.out];have k6:=HK5.out.below hb6 HK5.out.lt;have r0:=k6.cell 0 (v:= .int .i64 0) rfl;have r1:=k6.cell 1 (v:= .slice none 0 0) rfl;have f0:=k6.fz 0;have f1:=k6.fz 1;have HB6:=hidP (HB5.out.trans (hb6.mono HB5.out.size));clear k6 hb6))
     refine bodyPost_ret (v:= .tuple #[.agg #[.int .i64 0,.slice none 0 0],.int .i64 4]) (by simp[results,Tryz.results47,go_sem, *]) rfl ?_
     rw[HGR.out];exact⟨.inl ⟨HOF.out,rfl⟩,by have h:=HB6.out;go_grown⟩
end Go.Proofs.YtppkiejhhmahcaaGreatDoor.Wt
