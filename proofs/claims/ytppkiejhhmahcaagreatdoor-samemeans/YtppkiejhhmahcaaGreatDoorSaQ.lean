/- Facts, joined. -/
import Derived.Test.YtppkiejhhmahcaaGreatDoorSaL
import Derived.Test.YtppkiejhhmahcaaGreatDoorSaP
set_option linter.unusedSimpArgs false
set_option linter.unusedVariables false
set_option maxHeartbeats 6400000
set_option maxRecDepth 100000
namespace Go.Proofs.YtppkiejhhmahcaaGreatDoor.Wt
open ChangeShapes WideShapes ChangeAt RowKit Pl
def HeldPb (B:Nat)(fin:Int)(va:Value)(bF oF:Nat)(fq:Int)(w:World):Prop:=w.cell? ⟨B,0,none⟩=some (.int .i64 fin)∧w.cell? ⟨B,1,none⟩=some va∧w.cell? ⟨bF,oF,none⟩=some (.int .i64 fq)
theorem HeldPb.later {B:Nat}{fin:Int}{va:Value}{bF oF:Nat}{fq:Int}{w w':World}(h:HeldPb B fin va bF oF fq w)(hb:Below w.heap.size w w')(hB:B<w.heap.size)(hF:bF<w.heap.size):HeldPb B fin va bF oF fq w':=
 ⟨(hb.cell (p:=⟨B,0,none⟩) hB).trans h.1,(hb.cell (p:=⟨B,1,none⟩) hB).trans h.2.1,(hb.cell (p:=⟨bF,oF,none⟩) hF).trans h.2.2⟩
theorem HeldPb.set {B:Nat}{fin:Int}{va:Value}{bF oF:Nat}{fq:Int}{w:World}(h:HeldPb B fin va bF oF fq w){c k:Nat}(hB:B≠c)(hF:bF≠c)(u:Value):HeldPb B fin va bF oF fq (w.setCell ⟨c,k,none⟩ u):=by
 have key:∀ (b o:Nat) (x:Option Value),b≠c→w.cell? ⟨b,o,none⟩=x→(w.setCell ⟨c,k,none⟩ u).cell? ⟨b,o,none⟩=x:=fun b o x hb hx=>by
  have e:(w.setCell ⟨c,k,none⟩ u).heap[b]? =w.heap[b]?:=Below.heap_setCell _ _ _ b hb;rw[← hx];simp only[World.cell?];rw[e]
 exact⟨key _ _ _ hB h.1,key _ _ _ hB h.2.1,key _ _ _ hF h.2.2⟩
def HeldPt (B:Nat)(z:Int)(w:World):Prop:=w.cell? ⟨B,0,none⟩=some (.int .i64 z)
theorem HeldPt.one {B:Nat}{z:Int}{w:World}(h:HeldPt B z w):w.cell? ⟨B,0,none⟩=some (.int .i64 z):=h
theorem HeldPt.set {B:Nat}{z:Int}{w:World}(h:HeldPt B z w){c k:Nat}(hB:B≠c)(u:Value):HeldPt B z (w.setCell ⟨c,k,none⟩ u):=by
 have e:(w.setCell ⟨c,k,none⟩ u).heap[B]? =w.heap[B]?:=Below.heap_setCell _ _ _ B hB;unfold HeldPt at h ⊢;rw[← h];simp only[World.cell?];rw[e]
theorem pshNo {vs:List Int}{l:List St}(h:∀ q,q<l.length→∀ a ∈ (el l q).2,(pshA vs q a).2.2.1≤1000000000):pshO vs l=false:=by
 unfold pshO;rw[List.any_eq_false];intro q hq;rw[List.mem_range]at hq;rw[Bool.not_eq_true,List.any_eq_false];intro a ha
 have:=h q hq a ha;simpa using this
theorem pshYes {vs:List Int}{l:List St}{q:Nat}(hq:q<l.length){a:Ar}(ha:a ∈ (el l q).2)(h:1000000000<(pshA vs q a).2.2.1):pshO vs l=true:=by
 unfold pshO;rw[List.any_eq_true];refine⟨q,List.mem_range.2 hq,?_⟩
 rw[List.any_eq_true];exact⟨a,ha,by simpa using h⟩
theorem dstRng {m:Mc}{P:Nat→Nat→Prop}{vs:List Int}(h:DstAns m P vs 0){q:Nat}(hq:q<m.2.length):0≤el vs q∧el vs q≤1000000001:=by
 rcases h with⟨h0,_,h1⟩ | ⟨_,⟨_,_,h2⟩ | ⟨h1,_⟩⟩
 ·exact absurd h1.symm h0
 ·rcases h2 q hq with⟨_,k,_⟩ | ⟨c,_,⟨k1,k2,_⟩ | ⟨_,k2,_⟩⟩<;>omega
 ·cases h1
theorem zeroNot (ec:Int):ec=0∨(¬ ec=0∧(ec !=0)=true):=(Classical.em (ec=0)).imp id fun h=>⟨h,bne_iff_ne.2 h⟩
theorem psd_state {lt:List St}{fs:List Int}{i n:Nat}{va vn:Value}{w:World}(hn:lt.length=n)(hi:i<n)(hf:fs.length=n)(hA:Arcs w va (el lt i).2)(hN:Nums w vn fs)(hST:(el lt i).2.length≤400∧∀ p ∈ (el lt i).2,0≤p.2.2.1∧p.2.2.1≤1000000000∧∃ t:Nat,p.2.2.2=(t:Int)∧t<n)(hVS:∀ q,q<n→0≤el fs q∧el fs q≤1000000001)(r:Bool)(hr:((el lt i).2.any fun a=>decide (1000000000<(pshA fs i a).2.2.1))=r):
  Calls Tryz.prog 112 #[va,vn,.int .i64 (el fs i)] w fun e w'=>PsdRes r (pshS fs lt i).2 w e w':=by
 have h:=psd_any va vn (el lt i).2 fs n (el fs i) w hA hST.1 hN hf hVS (fun a ha=>(hST.2 a ha).2.2) (fun a ha=>⟨(hST.2 a ha).1,(hST.2 a ha).2.1⟩) (hVS i hi).1 (hVS i hi).2 r (by rw[psdA_psh];exact hr);rw[psdA_psh]at h;exact h
theorem pushP_ok (v:Value)(m:Mc)(w:World)(h:Mach w v m)(hok:okM m)(hr:faultM m=0):
  Calls Tryz.prog 53 #[v] w fun e w'=>PshRes (PshAns m) w e w':=by
 obtain⟨z,l⟩:=m
 have HM:Hid (Mach w v (z,l)):=h;have HK:Hid (okM (z,l)):=hok;have HR:=hidP hr;have HTF:Hid (∀ aa bs,faultM (trimM z l (keptL aa bs l.length))=0∧okM (trimM z l (keptL aa bs l.length))):=fun aa bs=>⟨jjei (aa:=aa) (bs:=bs) hr,trim_ok (aa:=aa) (bs:=bs) hok⟩
 have HAE:Hid (∀ aa bs vs e,Least (AheadC z l) l.length aa→Least (BackC l) l.length bs→DstAns (trimM z l (keptL aa bs l.length)) (EndC (trimM z l (keptL aa bs l.length)).2) vs e→e≠0→PshAns (z,l) (0,[]) 0 e):=fun aa bs vs e hA hB hD he=> .inr ⟨hr,aa,bs,vs,e,hA,hB,hD,.inl ⟨he,rfl,rfl,rfl⟩⟩
 have HAO:Hid (∀ aa bs vs,Least (AheadC z l) l.length aa→Least (BackC l) l.length bs→DstAns (trimM z l (keptL aa bs l.length)) (EndC (trimM z l (keptL aa bs l.length)).2) vs 0→pshO vs (trimM z l (keptL aa bs l.length)).2=true→PshAns (z,l) (0,[]) 0 4):=fun aa bs vs hA hB hD ho=> .inr ⟨hr,aa,bs,vs,0,hA,hB,hD,.inr (.inl ⟨rfl,ho,rfl,rfl,rfl⟩)⟩
 have HAG:Hid (∀ aa bs vs,Least (AheadC z l) l.length aa→Least (BackC l) l.length bs→DstAns (trimM z l (keptL aa bs l.length)) (EndC (trimM z l (keptL aa bs l.length)).2) vs 0→pshO vs (trimM z l (keptL aa bs l.length)).2=false→PshAns (z,l) (pshM vs (trimM z l (keptL aa bs l.length))) (pshT vs (trimM z l (keptL aa bs l.length))) 0):=fun aa bs vs hA hB hD ho=> .inr ⟨hr,aa,bs,vs,0,hA,hB,hD,.inr (.inr ⟨rfl,ho,rfl,rfl,rfl⟩)⟩
 obtain⟨vs0,rfl,hS⟩:=h
 obtain⟨a,cap,rfl⟩:=hS.sl
 clear hS hok hr;generalize PshAns (z,l)=ANS at *;go_enter Tryz.func53,Tryz.ntmps53;go_wp2_with (first
  | (go_at_call 19;(with_reducible refine(trim_run _ (z,l) _ (HM.out.later (B:=w.heap.size) (by go_grown) (Nat.le_refl _)) HK.out HR.out).mono ?_);rintro e w1 ⟨v1,rfl,⟨aa,hA,bs,hB,hm⟩,hb⟩;obtain⟨sa,b1,b2,hb1⟩:=boxedTwo hb (by simp);have HB1:=hidP hb1;have KR1:=hidP b2;have HTM:Hid (Mach w1 v1 (trimM z l (keptL aa bs l.length))):=hm;have HTE:=hidP (fun vs e=>HAE.out aa bs vs e hA hB);have HTO:=hidP (fun vs=>HAO.out aa bs vs hA hB);have HTG:=hidP (fun vs=>HAG.out aa bs vs hA hB);obtain⟨hf1,hk1⟩:=HTF.out aa bs;obtain⟨vsT,rfl,hS⟩:=hm;obtain⟨aT,cT,hvT,hcT⟩:=hS.get;subst hvT;clear b1 b2 hb1 hb hA hB hS;generalize hTT:trimM z l (keptL aa bs l.length)=T at *)
  | (go_at_call 111;(with_reducible refine(endsP_any _ T _ (HTM.out.later (B:=w1.heap.size) (by go_grown) (Nat.le_refl _)) hk1).mono ?_);rintro e w2 ⟨vr,fs,ec,rfl,hq,hn,hb⟩;obtain⟨s2,b1,hb2⟩:=boxed hb (by simp);have HB2:=hidP hb2;have KT2:=hidP b1;have KR2:=hidP (KR1.out.below hb2 (by omega));have HQ:=hidP hq;have HNF:=hidP hn;obtain⟨aF,cF,hvF,_⟩:=hn.get;subst hvF;have HB02:=hidP (HB1.out.trans (hb2.mono HB1.out.size));have q0:=KR2.out.cell 0 (v:= .int .i64 0) rfl;have q1:=KR2.out.cell 1 (v:= .slice none 0 0) rfl;have g0:=KR2.out.fz 0;have g1:=KR2.out.fz 1;have t0:=KT2.out.cell 0 (v:= .int .i64 T.1) rfl;have t1:=KT2.out.cell 1 (v:= .slice aT T.2.length cT) rfl;clear hb hb2 b1 hq hn;rcases zeroNot ec with hec | ⟨hec,hne⟩;case' inl=>(subst hec)))
 ·obtain ⟨zt,lt⟩:=T
  have h60:=(jjae hf1).1;have HST:Hid (∀ j,j<lt.length→(el lt j).2.length≤400∧∀ p ∈ (el lt j).2,0≤p.2.2.1∧p.2.2.1≤1000000000∧∃ t:Nat,p.2.2.2=(t:Int)∧t<lt.length):=fun j hj=>⟨(jja7 hf1 j hj).2.1,fun p hp=>by obtain⟨_,_,_,_,h5,h6,h7⟩:=jjbi hf1 hj hp;exact⟨h5,h6,h7⟩⟩
  have HFB:Hid (∀ j,j<lt.length→finB (el lt j).1=true):=fun j hj=>(jja7 hf1 j hj).1
  have HVS:Hid (∀ q,q<lt.length→0≤el fs q∧el fs q≤1000000001):=fun q hq=>dstRng HQ.out hq
  have hfl:fs.length=lt.length:=HQ.out.len.1;have hzr:=HQ.out.len.2;simp only at hzr;have HC:Hid (∀ j,j<lt.length→∃ b off va,aT=some ⟨b,off,none⟩∧b<w1.heap.size∧w1.cell? ⟨b,off+j*2,none⟩=some (.int .i64 (el lt j).1)∧w1.cell? ⟨b,off+j*2+1,none⟩=some va∧Arcs w1 va (el lt j).2):=hcT
  have HNP:Hid (0<lt.length→∃ b off,aF=some ⟨b,off,none⟩∧b<w2.heap.size∧∀ j,j<lt.length→w2.cell? ⟨b,off+j,none⟩=some (.int .i64 (el fs j))):=fun hp=>by
   obtain⟨b,off,c9,hv,hb,hc⟩:=Row.plain HNF.out (fun x=>by simp[encI1]) (by omega)
   injection hv with h1 _ _
   refine⟨b,off,h1,hb,fun j hj=>?_⟩
   have:=hc j (by omega) 0 _ rfl;rwa [Nat.mul_one,Nat.add_zero]at this
  have HOV:Hid (∀ q,q<lt.length→((el lt q).2.any fun a=>decide (1000000000<(pshA fs q a).2.2.1))=true→ANS (0,[]) 0 4):=fun q hq h=>by
   obtain⟨a,ha,h⟩:=List.any_eq_true.1 h
   exact HTO.out fs HQ.out (pshYes hq ha (by simpa using h))
  have HNO:Hid (∀ q,q<lt.length→((el lt q).2.any fun a=>decide (1000000000<(pshA fs q a).2.2.1))=false→∀ a ∈ (el lt q).2,(pshA fs q a).2.2.1≤1000000000):=fun q hq h a ha=>by
   have:=List.any_eq_false.1 h a ha;simpa using this
  have HGO:Hid ((∀ q,q<lt.length→∀ a ∈ (el lt q).2,(pshA fs q a).2.2.1≤1000000000)→ANS (pshM fs (zt,lt)) (pshT fs (zt,lt)) 0):=fun h=>HTG.out fs HQ.out (pshNo h)
  have KS:=KT2;have KR:=KR2;clear hcT hf1 hk1 HTE HTO HTG HQ HTM KT2 KR2 q0 q1 g0 g1 t0 hTT KR1 HTF HAE HAO HAG HM HK HR;rw[hfl]at HNF ⊢;try simp only at t1
  generalize hn:lt.length=n at *;have HN:Hid (lt.length=n):=hn;have HFL:=hidP hfl;clear hn hfl;have s3:w1.heap.size<w2.heap.size:=KS.out.lt;have hmk:=run_states n (by omega);go_wp2;clear hmk t1
  go_loopw [38] (fun s wr=>∃ (i:Nat) (xs:List (Int × Value)),i≤n∧s= .int .i64 i∧Hid (xs.length=n)∧Hid (Blk wr w2.heap.size (xs.flatMap encS).toArray 45)∧Hid (∀ j,j<i→(el xs j).1=(pshS fs lt j).1∧wr.ownsRow (w2.heap.size+1) 56 4 (el xs j).2 (pshS fs lt j).2.length ((pshS fs lt j).2.flatMap encA))∧Hid (Below w2.heap.size w2 wr)∧Hid (∀ q,q<i→∀ a ∈ (el lt q).2,(pshA fs q a).2.2.1≤1000000000)) (fun s _=>n-(intOf s).toNat)
  case atStart=>exact ⟨0,List.replicate n ((0:Int),Value.slice none 0 0),Nat.zero_le _,rfl,by show _=_;simp,Blk.made _ _ _,fun j hj=>absurd hj (Nat.not_lt_zero _),(Below.refl _ _).alloc (Nat.le_refl _) _,fun q hq=>absurd hq (Nat.not_lt_zero _)⟩
  case round=>
   obtain⟨i,xs,hi,rfl,hxl,hbx,hold,hb,hsm⟩:=hrel
   have KSr:=hidP (KS.out.below hb.out KS.out.lt);have KRr:=hidP (KR.out.below hb.out KR.out.lt);have HBw:=hidP (HB2.out.trans (hb.out.mono HB2.out.size));have HB0:=hidP (HB02.out.trans (hb.out.mono HB02.out.size));have hsr:=hb.out.size;have hxlt:=hbx.out.lt;have hks:=KS.out.lt;have hw1:=HB1.out.size;by_cases hin:i<n
   ·have i1:(i:Int)<(n:Int):=by omega
    have i0:(0:Int)≤(i:Int):=by omega
    obtain⟨b,off,va,rfl,hbl,y0,y1,gA⟩:=HC.out i hin
    obtain⟨bF,oF,haF,hbF,hcF⟩:=HNP.out (by omega)
    subst haF;have y9:=(hb.out.cell (p:=⟨bF,oF+i,none⟩) hbF).trans (hcF i hin);have y0:=(HBw.out.cell (p:=⟨b,off+i*2,none⟩) hbl).trans y0;have y1:=(HBw.out.cell (p:=⟨b,off+i*2+1,none⟩) hbl).trans y1;obtain⟨a2,cap2,hva⟩:=Row.sl gA
    subst hva;have hfin:=HFB.out i hin;have hvq:=HVS.out i hin;obtain⟨r,hr⟩:∃ r,((el lt i).2.any fun a=>decide (1000000000<(pshA fs i a).2.2.1))=r:=⟨_,rfl⟩
    have HPC:Hid (∀ W,Below wr.heap.size wr W→Calls Tryz.prog 112 #[.slice a2 (el lt i).2.length cap2,.slice (some ⟨bF,oF,none⟩) n cF,.int .i64 (el fs i)] W fun e w'=>PsdRes r (pshS fs lt i).2 W e w'):=fun W hW=>psd_state HN.out hin HFL.out (gA.later (HBw.out.trans (hW.mono HBw.out.size)) (Nat.le_refl _)) (HNF.out.later (hb.out.trans (hW.mono hb.out.size)) (Nat.le_refl _)) (HST.out i hin) HVS.out r hr
    have HOVi:=hidP (fun h=>HOV.out i hin (hr.trans h));have HNOi:=hidP (fun h=>HNO.out i hin (hr.trans h));have HFI:Hid ((if(el lt i).1=1000000001 then 1000000001 else(el lt i).1-el fs i)=(pshS fs lt i).1):=rfl;clear gA hcF hr;generalize el fs i=fq at *;generalize (el lt i).1=fin at *;generalize (el lt i).2.length=n2 at *;obtain⟨X,hX⟩:∃ X,pshS fs lt i=X:=⟨_,rfl⟩
    have HX:=hidP hX;rw[hX]at HPC HFI;clear hX;obtain⟨ff,xa⟩:=X
    simp only at HPC HFI;have hfb:0≤fin∧fin≤1000000001:=by simp[finB,inB]at hfin;omega
    obtain⟨fb0,fb1⟩:=hfb
    obtain⟨vq0,vq1⟩:=hvq
    obtain⟨wq,hwq⟩:∃ wq,wq=wr:=⟨_,rfl⟩
    subst hwq;have HS0:HeldPb wq.heap.size fin (.slice a2 n2 cap2) bF (oF+i) fq (wq.alloc (.cells #[.int .i64 fin,.slice a2 n2 cap2] 45)).drew:=⟨(Blk.made wq #[.int .i64 fin,.slice a2 n2 cap2] 45).cell 0 rfl,(Blk.made wq #[.int .i64 fin,.slice a2 n2 cap2] 45).cell 1 rfl,(((Below.refl wq.heap.size wq).alloc (Nat.le_refl _) _).cell (p:=⟨bF,oF+i,none⟩) (by show bF<wq.heap.size;omega)).trans y9⟩
    have HBA:Hid (Below wq.heap.size wq (wq.alloc (.cells #[.int .i64 fin,.slice a2 n2 cap2] 45)).drew):=((Below.refl _ _).alloc (Nat.le_refl _) _).drew;go_wp2;clear y9;refine jjaf (HeldPb wq.heap.size fin (.slice a2 n2 cap2) bF (oF+i) fq) 1000 (by kernel_rfl) ?_
    refine jjaa (v:=?v0_1) aZ0 ?y0_1 HS0 ?r0_1
    case y0_1=>intro wx hx;obtain⟨x0,x1,x2⟩:=hx;go_simp;try (with_reducible rfl)
    simp only[Act.put,sA,sB,sC];refine jjaa (v:=?v1_2) aZ1 ?y1_2 HS0 ?r1_2
    case y1_2=>intro wx hx;obtain⟨x0,x1,x2⟩:=hx;go_simp;try (with_reducible rfl)
    simp only[Act.put,sA,sB,sC];refine jjaa (v:=?v2_3) aZ2 ?y2_3 HS0 ?r2_3
    case y2_3=>intro wx hx;obtain⟨x0,x1,x2⟩:=hx;go_simp;try (with_reducible rfl)
    simp only[Act.put,sA,sB,sC];refine jjaa (v:=?v3_4) aZ3 ?y3_4 HS0 ?r3_4
    case y3_4=>intro wx hx;obtain⟨x0,x1,x2⟩:=hx;go_simp;try (with_reducible rfl)
    simp only[Act.put,sA,sB,sC];refine jjaa (v:=?v4_5) aZ4 ?y4_5 HS0 ?r4_5
    case y4_5=>intro wx hx;obtain⟨x0,x1,x2⟩:=hx;go_simp;try (with_reducible rfl)
    simp only[Act.put,sA,sB,sC];refine jjaa (v:=?v5_6) aZ5 ?y5_6 HS0 ?r5_6
    case y5_6=>intro wx hx;obtain⟨x0,x1,x2⟩:=hx;go_simp;try (with_reducible rfl)
    simp only[Act.put,sA,sB,sC];refine jjaa (v:=?v6_7) aZ6 ?y6_7 HS0 ?r6_7
    case y6_7=>intro wx hx;obtain⟨x0,x1,x2⟩:=hx;go_simp;try (with_reducible rfl)
    simp only[Act.put,sA,sB,sC];refine jjab aZ7 (fun K hK=>?_)
    go_simp;refine(HPC.out _ HBA.out).mono ?_
    rintro e w5 (⟨hrt,rfl,hb5⟩ | ⟨hrf,v5,rfl,ho5,hb5⟩)
    ·have HS5:HeldPb wq.heap.size fin (.slice a2 n2 cap2) bF (oF+i) fq w5:=HS0.later hb5 (by simp) (by simp;omega)
     have HB5:=hidP (HBA.out.trans (hb5.mono (by simp)));have HA4:=hidP (HOVi.out hrt);refine hK _ _ (.inr HS5) ?_
     try simp only[Act.put,sA,sB,sC]
     refine jjab aZ8 (fun K hK=>?_)
     go_simp;refine hK _ _ (.inr HS5) ?_
     try simp only[Act.put,sA,sB,sC]
     refine jjaa (v:=?v9_8) aZ9 ?y9_8 HS5 ?r9_8
     case y9_8=>intro wx hx;obtain⟨x0,x1,x2⟩:=hx;go_simp;try (with_reducible rfl)
     simp only[Act.put,sA,sB,sC];refine jjaa (v:=?v10_9) aZ10 ?y10_9 HS5 ?r10_9
     case y10_9=>intro wx hx;obtain⟨x0,x1,x2⟩:=hx;go_simp;try (with_reducible rfl)
     simp only[Act.put,sA,sB,sC];refine jjab aZ11 (fun K hK=>?_)
     go_simp;refine hK _ _ (.inr HS5) ?_
     try simp only[Act.put,sA,sB,sC]
     refine jjab aZ12 (fun K hK=>?_)
     go_simp;refine hK _ _ (.inr HS5) (jjad (by kernel_rfl) (NoPanic.normal ?_))
     try simp only[Act.put,sA,sB,sC]
     have KR5:=KRr.out.below HB5.out (by have:=KR.out.lt;omega);have q0:=KR5.cell 0 (v:= .int .i64 0) rfl;have q1:=KR5.cell 1 (v:= .slice none 0 0) rfl;have g0:=KR5.fz 0;have g1:=KR5.fz 1;have HB6:=hidP (HB0.out.trans (HB5.out.mono HB0.out.size));clear HS0 HS5 hrt hb5 KR5;go_wp2
     exact bodyPost_ret (v:= .tuple #[.agg #[.int .i64 0,.slice none 0 0],.int .i64 0,.int .i64 4]) (by simp[results,Tryz.results53,go_sem, *]) rfl ⟨_,_,_,_,rfl,HA4.out,jja5 _,by (have h9:=HB6.out);go_grown⟩
    ·have HS5:HeldPb wq.heap.size fin (.slice a2 n2 cap2) bF (oF+i) fq w5:=HS0.later hb5 (by simp) (by simp;omega)
     have HB5:=hidP (HBA.out.trans (hb5.mono (by simp)));have sB:wq.heap.size<w5.heap.size:=by
      have:=hb5.size;simp at this;omega
     have HNI:=hidP (HNOi.out hrf);have HO5:Hid (w5.ownsRow (w2.heap.size+1) 56 4 v5 xa.length (xa.flatMap encA)):=own_mono ho5 (by simp;omega);have s5:=HB5.out.size;obtain⟨a5,c5,hv5⟩:=jjbx ho5
     subst hv5;generalize hn5:xa.length=n5 at *;have HN5:=hidP hn5;clear hn5;refine hK _ _ (.inr HS5) ?_
     try simp only[Act.put,sA,sB,sC]
     refine jjab aZ8 (fun K hK=>?_)
     go_simp;refine hK _ _ (.inr HS5) ?_
     try simp only[Act.put,sA,sB,sC]
     refine jjaa (v:=?v9_10) aZ9 ?y9_10 HS5 ?r9_10
     case y9_10=>intro wx hx;obtain⟨x0,x1,x2⟩:=hx;go_simp;try (with_reducible rfl)
     simp only[Act.put,sA,sB,sC];refine jjaa (v:=?v10_11) aZ10 ?y10_11 HS5 ?r10_11
     case y10_11=>intro wx hx;obtain⟨x0,x1,x2⟩:=hx;go_simp;try (with_reducible rfl)
     simp only[Act.put,sA,sB,sC];refine jjab aZ11 (fun K hK=>?_)
     go_simp;refine hK _ _ (.inr HS5) ?_
     try simp only[Act.put,sA,sB,sC]
     refine jjab aZ12 (fun K hK=>?_)
     go_simp;refine hK _ _ (.inr HS5) (jjad (by kernel_rfl) (NoPanic.normal ?_))
     try simp only[Act.put,sA,sB,sC]
     clear HS0 hrf hb5 ho5;have HSD:HeldPb wq.heap.size fin (.slice a2 n2 cap2) bF (oF+i) fq w5.drew:=HS5;go_wp2;clear HS5;refine jjaf (HeldPb wq.heap.size fin (.slice a2 n2 cap2) bF (oF+i) fq) 1000 (by kernel_rfl) ?_
     refine jjaa (v:=?v0_12) aZ0 ?y0_12 HSD ?r0_12
     case y0_12=>intro wx hx;obtain⟨x0,x1,x2⟩:=hx;go_simp;try (with_reducible rfl)
     simp only[Act.put,sA,sB,sC];refine jjaa (v:=?v1_13) aZ1 ?y1_13 HSD ?r1_13
     case y1_13=>intro wx hx;obtain⟨x0,x1,x2⟩:=hx;go_simp;try (with_reducible rfl)
     simp only[Act.put,sA,sB,sC];refine jjaa (v:=?v2_14) aZ2 ?y2_14 HSD ?r2_14
     case y2_14=>intro wx hx;obtain⟨x0,x1,x2⟩:=hx;go_simp;try (with_reducible rfl)
     simp only[Act.put,sA,sB,sC];refine jjaa (v:=?v3_15) aZ3 ?y3_15 HSD ?r3_15
     case y3_15=>intro wx hx;obtain⟨x0,x1,x2⟩:=hx;go_simp;try (with_reducible rfl)
     simp only[Act.put,sA,sB,sC];refine jjaa (v:=?v4_16) aZ4 ?y4_16 HSD ?r4_16
     case y4_16=>intro wx hx;obtain⟨x0,x1,x2⟩:=hx;go_simp;try (with_reducible rfl)
     simp only[Act.put,sA,sB,sC];refine jjaa (v:=?v5_17) aZ5 ?y5_17 HSD ?r5_17
     case y5_17=>intro wx hx;obtain⟨x0,x1,x2⟩:=hx;go_simp;try (with_reducible rfl)
     simp only[Act.put,sA,sB,sC];refine jjaa (v:=?v6_18) aZ6 ?y6_18 HSD ?r6_18
     case y6_18=>intro wx hx;obtain⟨x0,x1,x2⟩:=hx;go_simp;try (with_reducible rfl)
     simp only[Act.put,sA,sB,sC];refine jjaa (v:=?v7_19) aZ7 ?y7_19 HSD ?r7_19
     case y7_19=>intro wx hx;obtain⟨x0,x1,x2⟩:=hx;go_simp;try (with_reducible rfl)
     simp only[Act.put,sA,sB,sC];refine jjaa (v:=?v9_20) aZ9 ?y9_20 HSD ?r9_20
     case y9_20=>intro wx hx;obtain⟨x0,x1,x2⟩:=hx;go_simp;try (with_reducible rfl)
     simp only[Act.put,sA,sB,sC];refine jjab aZ8 (fun K hK=>?_)
     go_simp;refine(less_any fin fq _ fb0 fb1 vq0 vq1 ff HFI.out).mono ?_
     rintro e w6 ⟨rfl,hb6⟩
     have HS6:HeldPb wq.heap.size fin (.slice a2 n2 cap2) bF (oF+i) fq w6:=HSD.later hb6 sB (by show bF<w5.heap.size;omega);have HB6:=hidP (HB5.out.trans ((jjbm hb6).mono HB5.out.size));have HO6:=hidP (jjco HO5.out (jjbm hb6));have hbs6:=hbx.out.below HB6.out (by omega);have HBS6:=hidP hbs6
     have e0:=hbs6.cell (i*2) (v:= .int .i64 (el xs i).1) (by rw[List.getElem?_toArray];exact jjas jja9 xs i (by rw[hxl.out];omega) 0 (by omega));have e1:=hbs6.cell (i*2+1) (v:=(el xs i).2) (by rw[List.getElem?_toArray];exact jjas jja9 xs i (by rw[hxl.out];omega) 1 (by omega));have f0:=hbs6.fz (i*2);have f1:=hbs6.fz (i*2+1)
     have HS7:HeldPb wq.heap.size fin (.slice a2 n2 cap2) bF (oF+i) fq ((w6.setCell ⟨w2.heap.size,i*2,none⟩ (.int .i64 ff)).setCell ⟨w2.heap.size,i*2+1,none⟩ (.slice a5 n5 c5)):=(HS6.set (by omega) (by omega) _).set (by omega) (by omega) _;clear hb6 hbs6 HSD;refine hK _ _ (.inr HS6) ?_
     try simp only[Act.put,sA,sB,sC]
     refine jjab aZ10 (fun K hK=>?_)
     go_simp;refine hK _ _ (.inr HS6) ?_
     try simp only[Act.put,sA,sB,sC]
     refine jjab aZ11 (fun K hK=>?_)
     go_simp;refine hK _ _ (.inr HS6) ?_
     try simp only[Act.put,sA,sB,sC]
     refine jjab aZ12 (fun K hK=>?_)
     go_simp;refine hK _ _ (.inr HS7) (jjad (by kernel_rfl) (NoPanic.normal ?_))
     try simp only[Act.put,sA,sB,sC]
     clear HS7 HS6 e0 e1 f0 f1;go_wp2;go_roundw
     case rel=>
      refine⟨i+1,xs.set i (ff,.slice a5 n5 c5),by omega,by go_num,by show _=_;simp;exact hxl.out,?_,?_,?_,?_⟩
      ·have h:=(HBS6.out.set (i*2) (.int .i64 ff)).set (i*2+1) (.slice a5 n5 c5)
       rw[jjfr (by rw[hxl.out];omega) (ff,.slice a5 n5 c5)]at h;exact h
      ·intro j hj
       rw[el_setS (by rw[hxl.out];omega)];by_cases hji:j=i
       ·subst hji
        rw[if_pos rfl,HX.out];exact⟨rfl,by show World.ownsRow _ _ _ _ _ xa.length _;rw[HN5.out];exact ownsRow_setCell_below (ownsRow_setCell_below HO6.out (Nat.lt_succ_self _) _) (Nat.lt_succ_self _) _⟩
       ·rw [if_neg hji]
        obtain⟨q1,q2⟩:=hold.out j (by omega)
        exact⟨q1,ownsRow_setCell_below (ownsRow_setCell_below (jjco q2 HB6.out) (Nat.lt_succ_self _) _) (Nat.lt_succ_self _) _⟩
      ·exact (((hb.out.trans (HB6.out.mono hb.out.size)).setCell (Nat.le_refl _) _).setCell (Nat.le_refl _) _)
      ·intro q hq
       by_cases hqi:q=i
       ·rw [hqi];exact HNI.out
       ·exact hsm.out q (by omega)
     case measure=>simp [intOf];omega
   ·have hke:i=n:=by omega
    have hnl:¬ (i:Int)<(n:Int):=by omega
    have HXX:Hid (∀ w',Agree w2.heap.size wr w'→Sts w' (.slice (some ⟨w2.heap.size,0,none⟩) n n) (pshL fs lt)):=by
     intro w' hg;have hl2:(pshL fs lt).length=n:=(jjca fs lt).trans HN.out
     have:=jjfs (l:=pshL fs lt) (B:=w2.heap.size+1) (w:=w') (blk_agree hbx.out (Nat.le_refl _) hg) (by rw[hl2];exact hxl.out) (fun j hj=>by
      rw[psh_el (by rw[hl2]at hj;rw[HN.out];exact hj)]
      obtain⟨q1,q2⟩:=hold.out j (by rw[hke];rw[hl2]at hj;exact hj)
      exact⟨q1,own_agree q2 (hg.mono (Nat.le_succ _))⟩)
     rw[hl2]at this;exact this
    have HA0:Hid (ANS (zt,pshL fs lt) (pshT fs (zt,lt)) 0):=HGO.out fun q hq=>hsm.out q (by omega)
    have HNW:=hidP (HNF.out.later hb.out (Nat.le_refl _));have HZF:Hid (zt<(fs.length:Int)):=by show _<_;rw[HFL.out];omega
    obtain⟨tot,htot⟩:∃ tot,(if zt<0 then 0 else el fs zt.toNat)=tot:=⟨_,rfl⟩
    have HTOT:=hidP htot;rw[show pshT fs (zt,lt)=tot from htot]at HA0;have HS0:HeldPt w1.heap.size zt wr.drew:=KSr.out.cell 0 rfl;generalize pshL fs lt=PL at *;obtain⟨wq,hwq⟩:∃ wq,wq=wr:=⟨_,rfl⟩
    subst hwq;clear hold hsm hbx HNP htot HOV HNO HGO HC;go_wp2;refine jjaf (HeldPt w1.heap.size zt) 1000 (by kernel_rfl) ?_
    refine jjaa (v:=?v0_21) aZ0 ?y0_21 HS0 ?r0_21
    case y0_21=>intro wx hx;have x0:=hx.one;go_simp;try (with_reducible rfl)
    simp only[Act.put,sA,sB,sC];refine jjaa (v:=?v1_22) aZ1 ?y1_22 HS0 ?r1_22
    case y1_22=>intro wx hx;have x0:=hx.one;go_simp;try (with_reducible rfl)
    simp only[Act.put,sA,sB,sC];refine jjaa (v:=?v2_23) aZ2 ?y2_23 HS0 ?r2_23
    case y2_23=>intro wx hx;have x0:=hx.one;go_simp;try (with_reducible rfl)
    simp only[Act.put,sA,sB,sC];refine jjaa (v:=?v3_24) aZ3 ?y3_24 HS0 ?r3_24
    case y3_24=>intro wx hx;have x0:=hx.one;go_simp;try (with_reducible rfl)
    simp only[Act.put,sA,sB,sC];refine jjaa (v:=?v4_25) aZ4 ?y4_25 HS0 ?r4_25
    case y4_25=>intro wx hx;have x0:=hx.one;go_simp;try (with_reducible rfl)
    simp only[Act.put,sA,sB,sC];refine jjaa (v:=?v5_26) aZ5 ?y5_26 HS0 ?r5_26
    case y5_26=>intro wx hx;have x0:=hx.one;go_simp;try (with_reducible rfl)
    simp only[Act.put,sA,sB,sC];refine jjaa (v:=?v6_27) aZ6 ?y6_27 HS0 ?r6_27
    case y6_27=>intro wx hx;have x0:=hx.one;go_simp;try (with_reducible rfl)
    simp only[Act.put,sA,sB,sC];refine jjab aZ7 (fun K hK=>?_)
    go_simp;refine(totalOf_any zt _ fs wq.drew (HNW.out.later ((Below.refl wq.heap.size wq).drew) (Nat.le_refl _)) HZF.out tot HTOT.out).mono ?_
    rintro e w7 ⟨rfl,hb7⟩
    have hb7':=jjbm hb7;have HS7:HeldPt w1.heap.size zt w7:=(hb7'.cell (p:=⟨w1.heap.size,0,none⟩) (by show w1.heap.size<wq.heap.size;omega)).trans HS0;have KR7:=hidP (KRr.out.below hb7' KRr.out.lt);have HB7:=hidP (HB0.out.trans (hb7'.mono HB0.out.size));have HG7:Hid (Agree w2.heap.size wq w7):=jjfp hb7';have hs7:=hb7'.size;have q0:=KR7.out.cell 0 (v:= .int .i64 0) rfl
    have q1:=KR7.out.cell 1 (v:= .slice none 0 0) rfl;have g0:=KR7.out.fz 0;have g1:=KR7.out.fz 1;clear hb7 hb7' HS0;refine hK _ _ (.inr HS7) ?_
    try simp only[Act.put,sA,sB,sC]
    have HS8:HeldPt w1.heap.size zt ((w7.setCell ⟨w.heap.size+1,0,none⟩ (.int .i64 zt)).setCell ⟨w.heap.size+1,1,none⟩ (.slice (some ⟨w2.heap.size,0,none⟩) n n)):=HeldPt.set (HeldPt.set HS7 (by omega) _) (by omega) _;have KR8:=hidP ((KR7.out.set 0 (.int .i64 zt)).set 1 (.slice (some ⟨w2.heap.size,0,none⟩) n n))
    have HB8:Hid (Below w.heap.size w ((w7.setCell ⟨w.heap.size+1,0,none⟩ (.int .i64 zt)).setCell ⟨w.heap.size+1,1,none⟩ (.slice (some ⟨w2.heap.size,0,none⟩) n n))):=(HB7.out.setCell (by show w.heap.size≤w.heap.size+1;omega) _).setCell (by show w.heap.size≤w.heap.size+1;omega) _
    have HG8:Hid (Agree w2.heap.size wq ((w7.setCell ⟨w.heap.size+1,0,none⟩ (.int .i64 zt)).setCell ⟨w.heap.size+1,1,none⟩ (.slice (some ⟨w2.heap.size,0,none⟩) n n))):=(HG7.out.trans hs7 (jjc8 (by show w.heap.size+1<w2.heap.size;omega) _)).trans (by simp[World.setCell];omega) (jjc8 (by show w.heap.size+1<w2.heap.size;omega) _);refine jjab aZ8 (fun K hK=>?_)
    go_simp;generalize (w7.setCell ⟨w.heap.size+1,0,none⟩ (.int .i64 zt)).setCell ⟨w.heap.size+1,1,none⟩ (.slice (some ⟨w2.heap.size,0,none⟩) n n)=w8 at *;refine hK _ _ (.inr HS8) ?_
    try simp only[Act.put,sA,sB,sC]
    refine jjab aZ9 (fun K hK=>?_)
    go_simp;refine hK _ _ (.inr HS8) ?_
    try simp only[Act.put,sA,sB,sC]
    refine jjab aZ10 (fun K hK=>?_)
    go_simp;refine hK _ _ (.inr HS8) (jjad (by kernel_rfl) (NoPanic.normal ?_))
    try simp only[Act.put,sA,sB,sC]
    have d0:=KR8.out.cell 0 (v:= .int .i64 zt) rfl;have d1:=KR8.out.cell 1 (v:= .slice (some ⟨w2.heap.size,0,none⟩) n n) rfl;clear HS7 HS8 q0 q1 g0 g1;go_wp2;exact bodyPost_ret (v:= .tuple #[.agg #[.int .i64 zt,.slice (some ⟨w2.heap.size,0,none⟩) n n],.int .i64 tot,.int .i64 0]) (by simp[results,Tryz.results53,go_sem, *]) rfl ⟨_,_,_,_,rfl,HA0.out,⟨_,rfl,HXX.out _ HG8.out⟩,HB8.out⟩
 ·have HA:=hidP (HTE.out fs ec HQ.out hec)
  go_wp2;exact bodyPost_ret (v:= .tuple #[.agg #[.int .i64 0,.slice none 0 0],.int .i64 0,.int .i64 ec]) (by simp[results,Tryz.results53,go_sem, *]) rfl ⟨_,_,_,_,rfl,HA.out,jja5 _,by (have h9:=HB02.out);go_grown⟩
theorem pushP_bad (v:Value)(m:Mc)(w:World)(h:Mach w v m)(hok:okM m)(hr:¬ faultM m=0):
  Calls Tryz.prog 53 #[v] w fun e w'=>PshRes (PshAns m) w e w':=by
 obtain⟨z,l⟩:=m
 have HM:Hid (Mach w v (z,l)):=h;have HK:Hid (okM (z,l)):=hok;obtain⟨r,hr0⟩:∃ r,faultM (z,l)=r:=⟨_,rfl⟩
 have HR:=hidP hr0;rw[hr0]at hr;have HA:Hid (PshAns (z,l) (0,[]) 0 r):= .inl ⟨by rw[hr0];exact hr,rfl,rfl,hr0.symm⟩;have HN:=hidP hr;have h2':(r !=0)=true:=bne_iff_ne.2 hr;obtain⟨vs,rfl,hS⟩:=h
 obtain⟨a,cap,rfl⟩:=hS.sl
 clear hS hok hr0 hr;go_enter Tryz.func53,Tryz.ntmps53;go_wp2_with (first
  | (go_at_call 19;(with_reducible refine(trim_bad _ (z,l) _ (HM.out.later (B:=w.heap.size) (by go_grown) (Nat.le_refl _)) HK.out r HR.out HN.out).mono ?_);rintro e wa ⟨rfl,hb⟩;obtain⟨sa,b1,b2,hb1⟩:=boxedTwo hb (by simp);have HBa:=hidP hb1;have KRa:=hidP b2;have q0:=KRa.out.cell 0 (v:= .int .i64 0) rfl;have q1:=KRa.out.cell 1 (v:= .slice none 0 0) rfl;have g0:=KRa.out.fz 0;have g1:=KRa.out.fz 1;have s1:w.heap.size+1<wa.heap.size:=(by omega);have s2:w.heap.size+1≠wa.heap.size:=(by omega);clear b1 b2 hb1 hb))
 exact bodyPost_ret (v:= .tuple #[.agg #[.int .i64 0,.slice none 0 0],.int .i64 0,.int .i64 r]) (by simp[results,Tryz.results53,go_sem, *]) rfl ⟨_,_,_,_,rfl,HA.out,jja5 _,by (have h9:=HBa.out);go_grown⟩
theorem pushP_any (v:Value)(m:Mc)(w:World)(h:Mach w v m)(hok:okM m):
  Calls Tryz.prog 53 #[v] w fun e w'=>PshRes (PshAns m) w e w':=by
 by_cases hr:faultM m=0
 ·exact pushP_ok v m w h hok hr
 ·exact pushP_bad v m w h hok hr
end Go.Proofs.YtppkiejhhmahcaaGreatDoor.Wt
