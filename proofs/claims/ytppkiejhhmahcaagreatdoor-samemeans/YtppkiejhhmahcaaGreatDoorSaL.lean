/- Facts, joined. -/
import Derived.Test.YtppkiejhhmahcaaGreatDoorSaK
set_option linter.unusedSimpArgs false
set_option linter.unusedVariables false
set_option maxHeartbeats 6400000
set_option maxRecDepth 100000
namespace Go.Proofs.YtppkiejhhmahcaaGreatDoor.Wt
open ChangeShapes WideShapes ChangeAt RowKit Pl
theorem jjfy (va vn:Value)(ar:List Ar)(ks ns:List Int)(n:Nat)(w:World)(hA:Arcs w va ar)(hL32:ar.length*32≤140737488351232)(hN:Nums w vn ns)(hl:ns.length=n)(hns:∀ j,j<n→el ns j=placeI ks (j:Int))(hto:∀ a ∈ ar,∃ t:Nat,a.2.2.2=(t:Int)∧t<n):
    Calls Tryz.prog 87 #[va,vn] w fun e w'=>∃ v',e= .returned v'∧w'.ownsRow w.heap.size 56 4 v' (trimA ks ar).length ((trimA ks ar).flatMap encA)∧Below w.heap.size w w':=by
  obtain⟨i0,hi0,hz0,hz1,hz2⟩:=info_parts infoArc
  obtain⟨a2,cap2,rfl,hga⟩:=hA.get
  obtain⟨xn,cn,rfl,hcn⟩:=hN.get
  rw[hl]at hcn ⊢;have HGA:Hid (∀ j,j<ar.length→∃ b off,a2=some ⟨b,off,none⟩∧b<w.heap.size∧w.cell? ⟨b,off+j*4,none⟩=some (.int .i64 (el ar j).1)∧w.cell? ⟨b,off+j*4+1,none⟩=some (.int .i64 (el ar j).2.1)∧w.cell? ⟨b,off+j*4+2,none⟩=some (.int .i64 (el ar j).2.2.1)∧w.cell? ⟨b,off+j*4+3,none⟩=some (.int .i64 (el ar j).2.2.2)):=hga
  have HCN:Hid (∀ j,j<n→∃ b off,xn=some ⟨b,off,none⟩∧b<w.heap.size∧w.cell? ⟨b,off+j,none⟩=some (.int .i64 (el ns j))):=hcn;have HNS:Hid (∀ j,j<n→el ns j=placeI ks (j:Int)):=hns;have HTO:Hid (∀ a ∈ ar,∃ t:Nat,a.2.2.2=(t:Int)∧t<n):=hto;clear hA hN hga hcn hns hto hl;generalize hL:ar.length=L at *;have HL:Hid (ar.length=L):=hL;clear hL;go_enter Tryz.func87,Tryz.ntmps87;go_wp2
  go_loopw [5,10] (fun s5 i wr=>∃ (j:Nat) (vr:Value),j≤L∧vr=s5∧i= .int .i64 j∧Hid (wr.ownsRow w.heap.size 56 4 vr (trimA ks (ar.take j)).length ((trimA ks (ar.take j)).flatMap encA))∧Hid (Below w.heap.size w wr)) (fun _ i _=>L-(intOf i).toNat)
  case atStart=>exact ⟨0,_,Nat.zero_le _,rfl,rfl,World.ownsRow_nil _ _ _ _,Below.refl _ _⟩
  case round=>
    obtain⟨j,vr,hj,rfl,rfl,hrw,hb⟩:=hrel
    by_cases hjL:j<L
    · obtain⟨b3,off3,rfl,hb3l,e0,e1,e2,e3⟩:=HGA.out j hjL
      have e0:=(hb.out.cell (p:=⟨b3,off3+j*4,none⟩) hb3l).trans e0;have e1:=(hb.out.cell (p:=⟨b3,off3+j*4+1,none⟩) hb3l).trans e1;have e2:=(hb.out.cell (p:=⟨b3,off3+j*4+2,none⟩) hb3l).trans e2;have e3:=(hb.out.cell (p:=⟨b3,off3+j*4+3,none⟩) hb3l).trans e3;have HT:=trimA_take (ks:=ks) (l:=ar) (k:=j) (by rw[HL.out];exact hjL)
      have htl:Hid ((trimA ks (ar.take j)).length≤L):=by have h9:=trimA_le ks (ar.take j);rw[List.length_take]at h9;show _≤_;omega
      obtain⟨t,ht,htn⟩:=HTO.out (el ar j) (jjac (by rw[HL.out];exact hjL))
      have hj0:(0:Int)≤(j:Int):=by omega
      have hj1:(j:Int)<(L:Int):=by omega
      have ht0:(0:Int)≤(t:Int):=by omega
      have ht1:(t:Int)<(n:Int):=by omega
      obtain⟨bn,on,rfl,hbnl,m0⟩:=HCN.out t htn
      have m0:=(hb.out.cell (p:=⟨bn,on+t,none⟩) hbnl).trans m0;rw[HNS.out t htn]at m0;generalize trimA ks (ar.take j)=tl at *;unfold turnA at HT;generalize el ar j=c at *;rw[ht]at e3 HT;have hge:=place_ge ks (t:Int);generalize placeI ks (t:Int)=pl at *;generalize hx0:c.1=x0 at *;generalize hx1:c.2.1=x1 at *;generalize hx2:c.2.2.1=x2 at *;clear hx0 hx1 hx2 ht;have hsz:=hb.out.size
      have hbw:bn<wr.heap.size:=by omega
      have hbw2:bn≠wr.heap.size:=by omega
      by_cases hp0:0≤pl
      · have HE:Hid (trimA ks (ar.take (j+1))=tl++[(x0,x1,x2,pl)]):=by show _=_;rw[HT,if_pos hp0]
        have hpb:(pl== -1)=false:=by have h9:pl≠ -1:=(by omega);simpa using h9
        have HD:Hid ((wr.alloc (.cells #[.int .i64 x0,.int .i64 x1,.int .i64 x2,.int .i64 pl] 56)).ownsRow w.heap.size 56 4 vr tl.length (tl.flatMap encA)):=hrw.out.alloc _;have HDB:Hid (Below w.heap.size w (wr.alloc (.cells #[.int .i64 x0,.int .i64 x1,.int .i64 x2,.int .i64 pl] 56))):=hb.out.alloc hb.out.size _;clear HT hrw;go_wp2_with (first
          | (at_builtin;refine jjav jjah (by decide) jjch rfl _ _ 43 rfl w.heap.size 56 i0 _ 32 Tryz.underlying43 hi0 hz0 hz1 hz2 rfl _ tl.length (tl.flatMap encA) rfl (HD.out.alloc _) _ [(x0,x1,x2,pl)] rfl (by have h9:=oneRow (enc:=encA) (wr.alloc (.cells #[.int .i64 x0,.int .i64 x1,.int .i64 x2,.int .i64 pl] 56)) (x0,x1,x2,pl) rfl 56;simp only[World.size_alloc]at h9;exact h9) (by have:=htl.out;simp;unfold maxLen;omega) (by have:=htl.out;simp;omega) (by have:=HDB.out.size;simp at this ⊢;omega) ?_;intro v4 w4 ho4 hg4;obtain⟨HO4,HB4,HZ4⟩:=snocFacts HD.out HDB.out.size ho4 hg4;clear ho4 hg4))
        go_roundw
        case rel=>exact ⟨j+1,_,by omega,rfl,by go_num,by rw[HE.out];exact HO4,HDB.out.trans HB4.out⟩
        case measure=>simp [intOf];omega
      · have HE:Hid (trimA ks (ar.take (j+1))=tl):=by show _=_;rw[HT,if_neg hp0,List.append_nil]
        have hpe:pl= -1:=by omega
        subst hpe;have HD:Hid ((wr.alloc (.cells #[.int .i64 x0,.int .i64 x1,.int .i64 x2,.int .i64 (t:Int)] 56)).ownsRow w.heap.size 56 4 vr tl.length (tl.flatMap encA)):=hrw.out.alloc _;have HDB:Hid (Below w.heap.size w (wr.alloc (.cells #[.int .i64 x0,.int .i64 x1,.int .i64 x2,.int .i64 (t:Int)] 56))):=hb.out.alloc hb.out.size _;clear HT hrw hp0 hge;go_wp2;go_roundw
        case rel=>exact ⟨j+1,_,by omega,rfl,by go_num,by rw[HE.out];exact HD,HDB⟩
        case measure=>simp [intOf];omega
    · have hnl:¬ (j:Int)<(L:Int):=by omega
      have HO:Hid (wr.ownsRow w.heap.size 56 4 vr (trimA ks ar).length ((trimA ks ar).flatMap encA)):=by
        have h9:=hrw.out;rw[show j=ar.length by rw[HL.out];omega,List.take_length]at h9;exact h9
      go_wp2;go_ret;exact⟨_,rfl,HO.out,hb.out⟩
theorem OwnSts.lt {w:World}{base:Nat}{v:Value}{l:List St}(h:OwnSts w base v l):∀ k,v.ownBlock=some k→base≤k∧k<w.heap.size:=by
 obtain⟨vs,h1,_⟩:=h
 exact fun k hk=>h1.lt k hk
def stN (z:Int)(ks:List Int)(q:Nat):Int:=if z<(q:Int) then placeI ks z else -1
def HeldO (BL X:Nat)(vt va:Value)(f:Int)(w:World):Prop:=w.cell? ⟨BL,1,none⟩=some vt∧w.cell? ⟨X,0,none⟩=some (.int .i64 f)∧w.cell? ⟨X,1,none⟩=some va
theorem HeldO.later {BL X B:Nat}{vt va:Value}{f:Int}{w w':World}(h:HeldO BL X vt va f w)(hb:Below B w w')(h1:BL<B)(h2:X<B):HeldO BL X vt va f w':=⟨(hb.cell (p:=⟨BL,1,none⟩) h1).trans h.1,(hb.cell (p:=⟨X,0,none⟩) h2).trans h.2.1,(hb.cell (p:=⟨X,1,none⟩) h2).trans h.2.2⟩
theorem only_any (z:Int)(vs:Value)(l:List St)(vn:Value)(ns:List Int)(aa bs:List Bool)(w:World)(h:Mach w (.agg #[.int .i64 z,vs]) (z,l))(hok:okM (z,l))(hr:faultM (z,l)=0)(hN:Nums w vn ns)(hl:ns.length=l.length)(hns:∀ j,j<l.length→el ns j=placeI (keptL aa bs l.length) (j:Int)):
    Calls Tryz.prog 41 #[.agg #[.int .i64 z,vs],vn] w fun e w'=>∃ vt,e= .returned (.agg #[.int .i64 (placeI (keptL aa bs l.length) z),vt])∧OwnSts w' (w.heap.size+3) vt ((keptL aa bs l.length).map (trimS l (keptL aa bs l.length)))∧Below w.heap.size w w':=by
  obtain⟨vs',hvs,hS⟩:=h
  simp only[Value.agg.injEq,Array.mk.injEq,List.cons.injEq,and_true,true_and]at hvs;subst hvs;obtain⟨a,cap,rfl,hc⟩:=hS.get
  have HNV:Hid (Nums w vn ns):=hN;obtain⟨xn,cn,hvn,hcn⟩:=hN.get
  rw[hl]at hvn hcn;have h60:=(jjae hr).1;have HLK:Hid (∀ j,j<l.length→(el l j).2.length*32≤140737488351232):=hok.2;have HC:Hid (∀ j,j<l.length→∃ b off va,a=some ⟨b,off,none⟩∧b<w.heap.size∧w.cell? ⟨b,off+j*2,none⟩=some (.int .i64 (el l j).1)∧w.cell? ⟨b,off+j*2+1,none⟩=some va∧Arcs w va (el l j).2):=hc
  have HCN:Hid (∀ j,j<l.length→∃ b off,xn=some ⟨b,off,none⟩∧b<w.heap.size∧w.cell? ⟨b,off+j,none⟩=some (.int .i64 (el ns j))):=hcn;have HNS:Hid (∀ j,j<l.length→el ns j=placeI (keptL aa bs l.length) (j:Int)):=hns;have HTO:Hid (∀ j,j<l.length→∀ c ∈ (el l j).2,∃ t:Nat,c.2.2.2=(t:Int)∧t<l.length):=fun j hj c hc=>jjdi hr hj hc
  have hzr:=(jjax hr).2;simp only[rangeB,Bool.and_eq_true,inB,decide_eq_true_eq]at hzr;have HZ:Hid (-1≤z∧z<(l.length:Int)):=⟨hzr.1.1,by show z<_;omega⟩
  have HKP:Hid (∀ q,q<l.length→(0≤placeI (keptL aa bs l.length) (q:Int)→keptL aa bs (q+1)=keptL aa bs q++[(q:Int)])∧(¬ 0≤placeI (keptL aa bs l.length) (q:Int)→keptL aa bs (q+1)=keptL aa bs q)):=fun q hq=>by
    have h9:=keptL_iff (a:=aa) (b:=bs) (n:=l.length) (q:=q);rw[← jjb8 (jja4 aa bs l.length)]at h9;rw[jjcq];refine⟨fun h8=>?_,fun h8=>?_⟩
    · have h7:=h9.1 h8
      rw[h7.2.1,h7.2.2];rfl
    · rw[if_neg (fun h7=>h8 (h9.2 ⟨hq,by simpa using h7⟩)),List.append_nil]
  have HLN:Hid (∀ q,(keptL aa bs q).length≤q):=fun q=>jjd6 aa bs q
  clear hS hc hcn hns hok hr hN hzr;subst hvn;generalize hks:keptL aa bs l.length=ks at *;have HKE:Hid (keptL aa bs l.length=ks):=hks;clear hks;generalize hn:l.length=n at *;have HN:Hid (l.length=n):=hn;clear hn;go_enter Tryz.func41,Tryz.ntmps41;go_wp2
  go_loopw [12] (fun i wr=>∃ (q:Nat) (vt:Value),q≤n∧i= .int .i64 q∧Hid (OwnSts wr (w.heap.size+3) vt ((keptL aa bs q).map (trimS l ks)))∧Hid (Blk wr (w.heap.size+1+1) #[.int .i64 (stN z ks q),vt] 24)∧Hid (Blk wr w.heap.size #[.int .i64 z,.slice a n cap] 24)∧Hid (Blk wr (w.heap.size+1) #[.int .i64 0,.slice none 0 0] 24)∧Hid (Below w.heap.size w wr)∧w.heap.size+3≤wr.heap.size) (fun i _=>n-(intOf i).toNat)
  case atStart=>
    refine⟨0,.slice none 0 0,Nat.zero_le _,rfl,OwnSts.nil _ _,?_,?_,?_,?_,by simp⟩
    · have h0:stN z ks 0= -1:=by
        unfold stN;split
        · rw[jjcb]
          intro h9;rw[← HKE.out]at h9;obtain⟨q,h8,_⟩:=jjbo h9
          omega
        · rfl
      rw[h0];have h9:=Blk.made ((w.alloc (.cells #[.int .i64 z,.slice a n cap] 24)).alloc (.cells #[.int .i64 0,.slice none 0 0] 24)) #[.int .i64 (-1),.slice none 0 0] 24;simp only[World.size_alloc]at h9;exact h9
    · exact((Blk.made w _ _).alloc _).alloc _
    · have h9:=(Blk.made (w.alloc (.cells #[.int .i64 z,.slice a n cap] 24)) #[.int .i64 0,.slice none 0 0] 24).alloc (.cells #[.int .i64 (-1),.slice none 0 0] 24)
      simp only[World.size_alloc]at h9;exact h9
    · exact(((Below.refl _ _).alloc (Nat.le_refl _) _).alloc (by simp) _).alloc (by simp;omega) _
  case round=>
    obtain⟨q,vt,hq,rfl,hos,hbl,hbx,hbr,hb,hsz⟩:=hrel
    by_cases hqn:q<n
    · obtain⟨b,off,va,rfl,hbl',g0,g1,gA⟩:=HC.out q hqn
      obtain⟨bn,on,rfl,hbnl,m0⟩:=HCN.out q hqn
      have HGA:Hid (Arcs w va (el l q).2):=gA;obtain⟨a2,cap2,hva⟩:=gA.sl
      have g0:=(hb.out.cell (p:=⟨b,off+q*2,none⟩) hbl').trans g0;have g1:=(hb.out.cell (p:=⟨b,off+q*2+1,none⟩) hbl').trans g1;have HM0:Hid (w.cell? ⟨bn,on+q,none⟩=some (.int .i64 (placeI ks (q:Int)))):=by show _=_;rw[m0,HNS.out q hqn]
      have m0:=(hb.out.cell (p:=⟨bn,on+q,none⟩) hbnl).trans HM0.out;obtain⟨hkp,hkn⟩:=HKP.out q hqn
      have HTE:Hid (trimS l ks (q:Int)=((el l q).1,trimA ks (el l q).2)):=by show _=_;unfold trimS;rw[Int.toNat_natCast]
      have hL32:=HLK.out q hqn;have HAT:=HTO.out q hqn;have hkl:=HLN.out q;have hge:=place_ge ks (q:Int);have hst:z=(q:Int)→stN z ks q= -1∧stN z ks (q+1)=placeI ks (q:Int):=fun e=>by
        unfold stN;subst e;rw[if_neg (by omega),if_pos (by omega)];exact⟨rfl,rfl⟩
      have hst2:z≠(q:Int)→stN z ks (q+1)=stN z ks q:=fun e=>by
        unfold stN;by_cases h9:z<(q:Int)
        · rw[if_pos h9,if_pos (by omega)]
        · rw[if_neg h9,if_neg (by omega)]
      subst hva;clear gA;generalize (el l q).1=f at *;generalize (el l q).2=ar at *;have hq0:(0:Int)≤(q:Int):=by omega
      have hq1:(q:Int)<(n:Int):=by omega
      have hbw:bn<wr.heap.size:=by omega
      by_cases hp0:0≤placeI ks (q:Int)
      · have HKE1:Hid (keptL aa bs (q+1)=keptL aa bs q++[(q:Int)]):=hkp hp0
        have hpb:(placeI ks (q:Int)== -1)=false:=by have h9:placeI ks (q:Int)≠ -1:=(by omega);simpa using h9
        obtain⟨wo,hwo⟩:∃ wo,wo=wr:=⟨wr,rfl⟩
        subst hwo;obtain⟨av,cv,hvt⟩:=hos.out.sts.sl
        have hlm:((keptL aa bs q).map (trimS l ks)).length≤60:=by rw[List.length_map];omega
        have HMAP:Hid ((keptL aa bs (q+1)).map (trimS l ks)=(keptL aa bs q).map (trimS l ks)++[(f,trimA ks ar)]):=by show _=_;rw[HKE1.out,List.map_append,List.map_cons,List.map_nil,HTE.out]
        subst hvt;generalize (keptL aa bs q).map (trimS l ks)=P at *;have HOS1:Hid (OwnSts (wo.alloc (.cells #[.int .i64 f,.slice a2 ar.length cap2] 45)) (w.heap.size+3) (.slice av P.length cv) P):=hos.out.kept (grownBelow ((Below.refl _ _).alloc (Nat.le_refl _) _));have HOLT:Hid (∀ k,Value.ownBlock (.slice av P.length cv)=some k→k<wo.heap.size):=fun k hk=>(hos.out.lt k hk).2
        have L1:Hid (Blk (wo.alloc (.cells #[.int .i64 f,.slice a2 ar.length cap2] 45)) (w.heap.size+1+1) #[.int .i64 (stN z ks q),.slice av P.length cv] 24):=hbl.out.alloc _;have X1:Hid (Blk (wo.alloc (.cells #[.int .i64 f,.slice a2 ar.length cap2] 45)) w.heap.size #[.int .i64 z,.slice (some ⟨b,off,none⟩) n cap] 24):=hbx.out.alloc _
        have R1:Hid (Blk (wo.alloc (.cells #[.int .i64 f,.slice a2 ar.length cap2] 45)) (w.heap.size+1) #[.int .i64 0,.slice none 0 0] 24):=hbr.out.alloc _;have Y1:Hid (Below w.heap.size w (wo.alloc (.cells #[.int .i64 f,.slice a2 ar.length cap2] 45))):=hb.out.alloc hb.out.size _
        have S1:Hid (Blk (wo.alloc (.cells #[.int .i64 f,.slice a2 ar.length cap2] 45)) wo.heap.size #[.int .i64 f,.slice a2 ar.length cap2] 45):=Blk.made _ _ _;have z1:(wo.alloc (.cells #[.int .i64 f,.slice a2 ar.length cap2] 45)).heap.size=wo.heap.size+1:=World.size_alloc _ _;clear hos hbl hbx hbr hb hkp hkn hp0 hge;go_wp2
        generalize wo.alloc (.cells #[.int .i64 f,.slice a2 ar.length cap2] 45)=W1 at *;have HS:HeldO (w.heap.size+1+1) wo.heap.size (.slice av P.length cv) (.slice a2 ar.length cap2) f W1.drew:=⟨L1.out.cell 1 rfl,S1.out.cell 0 rfl,S1.out.cell 1 rfl⟩
        refine jjaf (HeldO (w.heap.size+1+1) wo.heap.size (.slice av P.length cv) (.slice a2 ar.length cap2) f) 12 (by kernel_rfl) ?_
        refine jjaa (v:=?v0_1) aZ0 ?y0_1 HS ?r0_1
        case y0_1=>intro wx hx;obtain⟨h1,h2,h3⟩:=hx;go_simp;try (with_reducible rfl)
        simp only[Act.put,sA,sB,sC];refine jjaa (v:=?v1_2) aZ1 ?y1_2 HS ?r1_2
        case y1_2=>intro wx hx;obtain⟨h1,h2,h3⟩:=hx;go_simp;try (with_reducible rfl)
        simp only[Act.put,sA,sB,sC];refine jjaa (v:=?v2_3) aZ2 ?y2_3 HS ?r2_3
        case y2_3=>intro wx hx;obtain⟨h1,h2,h3⟩:=hx;go_simp;try (with_reducible rfl)
        simp only[Act.put,sA,sB,sC];refine jjaa (v:=?v3_4) aZ3 ?y3_4 HS ?r3_4
        case y3_4=>intro wx hx;obtain⟨h1,h2,h3⟩:=hx;go_simp;try (with_reducible rfl)
        simp only[Act.put,sA,sB,sC];refine jjaa (v:=?v4_5) aZ4 ?y4_5 HS ?r4_5
        case y4_5=>intro wx hx;obtain⟨h1,h2,h3⟩:=hx;go_simp;try (with_reducible rfl)
        simp only[Act.put,sA,sB,sC];refine jjaa (v:=?v5_6) aZ5 ?y5_6 HS ?r5_6
        case y5_6=>intro wx hx;obtain⟨h1,h2,h3⟩:=hx;go_simp;try (with_reducible rfl)
        simp only[Act.put,sA,sB,sC];refine jjaa (v:=?v6_7) aZ6 ?y6_7 HS ?r6_7
        case y6_7=>intro wx hx;obtain⟨h1,h2,h3⟩:=hx;go_simp;try (with_reducible rfl)
        simp only[Act.put,sA,sB,sC];refine jjab aZ7 (fun K hK=>?_)
        go_simp;have YD:Below w.heap.size w W1.drew:=Y1.out.drew;refine(jjfy _ _ ar ks ns n W1.drew (HGA.out.later YD (Nat.le_refl _)) hL32 (HNV.out.later YD (Nat.le_refl _)) hl HNS.out HAT).mono ?_
        rintro e w2 ⟨v2,rfl,ho2,hb2⟩
        have z2:wo.heap.size+1≤w2.heap.size:=by have h9:=hb2.size;have h8:W1.drew.heap.size=W1.heap.size:=rfl;omega
        have HS2:HeldO (w.heap.size+1+1) wo.heap.size (.slice av P.length cv) (.slice a2 ar.length cap2) f w2:=HS.later hb2 (by show _<W1.heap.size;omega) (by show _<W1.heap.size;omega);have hb2':Below W1.heap.size W1 w2:=⟨hb2.os,hb2.tape,hb2.output,hb2.size,hb2.block⟩
        have L2:Hid (Blk w2 (w.heap.size+1+1) #[.int .i64 (stN z ks q),.slice av P.length cv] 24):=L1.out.below hb2' L1.out.lt;have X2:Hid (Blk w2 w.heap.size #[.int .i64 z,.slice (some ⟨b,off,none⟩) n cap] 24):=X1.out.below hb2' X1.out.lt;have R2:Hid (Blk w2 (w.heap.size+1) #[.int .i64 0,.slice none 0 0] 24):=R1.out.below hb2' R1.out.lt
        have Y2:Hid (Below w.heap.size w w2):=Y1.out.trans (hb2'.mono Y1.out.size);have S2:Hid (Blk w2 wo.heap.size #[.int .i64 f,.slice a2 ar.length cap2] 45):=S1.out.below hb2' S1.out.lt;have HOS2:Hid (OwnSts w2 (w.heap.size+3) (.slice av P.length cv) P):=HOS1.out.kept (grownBelow hb2')
        have HO2:Hid (w2.ownsRow (w.heap.size+3) 56 4 v2 (trimA ks ar).length ((trimA ks ar).flatMap encA)):=ownMono ho2 (by show _≤W1.heap.size;omega);obtain⟨a3,c3,hv2⟩:=jjbx ho2
        subst hv2;refine hK _ _ (.inr HS2) ?_
        try simp only[Act.put,sA,sB,sC]
        clear ho2 hb2 hb2' HS YD L1 X1 R1 S1 Y1 HOS1;refine jjab aZ8 (fun K hK=>?_)
        go_simp;refine hK _ _ (.inr HS2) ?_
        try simp only[Act.put,sA,sB,sC]
        refine jjab aZ9 (fun K hK=>?_)
        go_simp;have hb3:Below w2.heap.size w2 (w2.alloc (.cells #[.int .i64 f,.slice a3 (trimA ks ar).length c3] 45)):=(Below.refl _ _).alloc (Nat.le_refl _) _;have HS3:HeldO (w.heap.size+1+1) wo.heap.size (.slice av P.length cv) (.slice a2 ar.length cap2) f (w2.alloc (.cells #[.int .i64 f,.slice a3 (trimA ks ar).length c3] 45)):=HS2.later hb3 (by omega) (by omega);refine hK _ _ (.inr HS3) ?_
        try simp only[Act.put,sA,sB,sC]
        obtain⟨v3,w3,r3,ho3,B3,G3⟩:=jjfe (W:=w2.alloc (.cells #[.int .i64 f,.slice a3 (trimA ks ar).length c3] 45)) (f,trimA ks ar) P (.slice a3 (trimA ks ar).length c3) (.slice av P.length cv) (w.heap.size+3) (w1:=w2) rfl rfl rfl rfl HOS2.out HO2.out (by omega) (by omega)
        obtain⟨a4,cp4,hv3⟩:=ho3.sts.sl
        have HOS3:Hid (OwnSts w3 (w.heap.size+3) v3 ((keptL aa bs (q+1)).map (trimS l ks))):=by rw[HMAP.out];exact ho3
        have S3:Hid (Blk w3 wo.heap.size #[.int .i64 f,.slice a2 ar.length cap2] 45):=(S2.out.alloc _).grown G3 (fun e9=>by have h9:=HOLT.out _ e9.symm;omega);have L3:Hid (Blk w3 (w.heap.size+1+1) #[.int .i64 (stN z ks q),.slice av P.length cv] 24):=L2.out.below B3 (by omega);have X3:Hid (Blk w3 w.heap.size #[.int .i64 z,.slice (some ⟨b,off,none⟩) n cap] 24):=X2.out.below B3 (by omega)
        have R3:Hid (Blk w3 (w.heap.size+1) #[.int .i64 0,.slice none 0 0] 24):=R2.out.below B3 (by omega);have Y3:Hid (Below w.heap.size w w3):=Y2.out.trans (B3.mono (by omega));have z3:w.heap.size+3≤w3.heap.size:=by have h9:=B3.size;omega
        have HS4:HeldO (w.heap.size+1+1) wo.heap.size (.slice av P.length cv) (.slice a2 ar.length cap2) f w3:=⟨L3.out.cell 1 rfl,S3.out.cell 0 rfl,S3.out.cell 1 rfl⟩
        subst hv3;have HR3:Hid _:=r3;clear r3 ho3 B3 G3;refine jjab aZ10 (fun K hK=>?_)
        refine jjaw (.tmp 23) (.tmp 31) 22 rfl rfl rfl HR3.out ?_
        refine hK _ _ (.inr HS4) ?_
        try simp only[Act.put,sA,sB,sC]
        clear HS2 HS3 hb3 HR3;refine jjaa (v:=?v11_8) aZ11 ?y11_8 HS4 ?r11_8
        case y11_8=>intro wx hx;obtain⟨h1,h2,h3⟩:=hx;go_simp;try (with_reducible rfl)
        simp only[Act.put,sA,sB,sC];have y0:=L3.out.cell 1 (v:= .slice av P.length cv) rfl;have y1:=L3.out.fz 1;generalize (P++[(f,trimA ks ar)]).length=q9 at *;refine jjab aZ12 (fun K hK=>?_)
        go_simp;refine hK _ _ (.inl rfl) (jjad (by kernel_rfl) (NoPanic.normal ?_))
        try simp only[Act.put,sA,sB,sC]
        clear HS4 y0 y1;have L4:Hid (Blk (w3.setCell ⟨w.heap.size+1+1,1,none⟩ (.slice a4 q9 cp4)) (w.heap.size+1+1) #[.int .i64 (stN z ks q),.slice a4 q9 cp4] 24):=L3.out.set 1 _;have X4:Hid (Blk (w3.setCell ⟨w.heap.size+1+1,1,none⟩ (.slice a4 q9 cp4)) w.heap.size #[.int .i64 z,.slice (some ⟨b,off,none⟩) n cap] 24):=X3.out.setO _ _ (by show w.heap.size≠w.heap.size+1+1;omega)
        have R4:Hid (Blk (w3.setCell ⟨w.heap.size+1+1,1,none⟩ (.slice a4 q9 cp4)) (w.heap.size+1) #[.int .i64 0,.slice none 0 0] 24):=R3.out.setO _ _ (by show w.heap.size+1≠w.heap.size+1+1;omega);have Y4:Hid (Below w.heap.size w (w3.setCell ⟨w.heap.size+1+1,1,none⟩ (.slice a4 q9 cp4))):=Y3.out.setCell (by show w.heap.size≤w.heap.size+1+1;omega) _
        have HOS4:Hid (OwnSts (w3.setCell ⟨w.heap.size+1+1,1,none⟩ (.slice a4 q9 cp4)) (w.heap.size+3) (.slice a4 q9 cp4) ((keptL aa bs (q+1)).map (trimS l ks))):=HOS3.out.setCell (by show w.heap.size+1+1<_;omega) _;have z4:w.heap.size+3≤(w3.setCell ⟨w.heap.size+1+1,1,none⟩ (.slice a4 q9 cp4)).heap.size:=by simp[World.setCell];exact z3
        generalize w3.setCell ⟨w.heap.size+1+1,1,none⟩ (.slice a4 q9 cp4)=w4 at *;have c0:=X4.out.cell 0 (v:= .int .i64 z) rfl;have m1:=(Y4.out.cell (p:=⟨bn,on+q,none⟩) hbnl).trans HM0.out;have d0:=L4.out.cell 0 (v:= .int .i64 (stN z ks q)) rfl;have d1:=L4.out.fz 0;by_cases hzq:z=(q:Int)
        · have HST:Hid (stN z ks (q+1)=placeI ks (q:Int)):=(hst hzq).2
          subst hzq;clear hst hst2;generalize placeI ks (q:Int)=pl at *;go_wp2;go_roundw
          case rel=>exact ⟨q+1,_,by omega,by go_num,HOS4.out.setCell (by show w.heap.size+1+1<_;omega) _,by rw[HST.out];exact L4.out.set 0 _,X4.out.setO _ _ (by show w.heap.size≠w.heap.size+1+1;omega),R4.out.setO _ _ (by show w.heap.size+1≠w.heap.size+1+1;omega),Y4.out.setCell (by show w.heap.size≤w.heap.size+1+1;omega) _,by simp[World.setCell];exact z4⟩
          case measure=>simp [intOf];omega
        · have HST:Hid (stN z ks (q+1)=stN z ks q):=hst2 hzq
          have hzb:((q:Int)==z)=false:=by simpa using (fun e:(q:Int)=z=>hzq e.symm)
          clear hst hst2;go_wp2;go_roundw
          case rel=>exact ⟨q+1,_,by omega,by go_num,HOS4,by rw[HST.out];exact L4,X4,R4,Y4,z4⟩
          case measure=>simp [intOf];omega
      · have HKE1:Hid (keptL aa bs (q+1)=keptL aa bs q):=hkn (by omega)
        have hpe:placeI ks (q:Int)= -1:=by omega
        have HST:Hid (stN z ks (q+1)=stN z ks q):=by
          show _=_;by_cases e:z=(q:Int)
          · rw[(hst e).1,(hst e).2,hpe]
          · exact hst2 e
        rw[hpe]at m0;clear hkp hkn hst hst2 hp0 hge hpe HAT;go_wp2;go_roundw
        case rel=>exact ⟨q+1,vt,by omega,by go_num,by rw[HKE1.out];exact hos.out.kept (grownBelow ((Below.refl _ _).alloc (Nat.le_refl _) _)),by rw[HST.out];exact hbl.out.alloc _,hbx.out.alloc _,hbr.out.alloc _,hb.out.alloc hb.out.size _,by simp;omega⟩
        case measure=>simp [intOf];omega
    · have hnl:¬ (q:Int)<(n:Int):=by omega
      have hqe:q=n:=by omega
      have HX:Hid (OwnSts wr (w.heap.size+3) vt (ks.map (trimS l ks))):=by have h9:=hos.out;rw[hqe,HKE.out]at h9;exact h9
      have HST:Hid (stN z ks q=placeI ks z):=by show _=_;unfold stN;rw[if_pos (by have h9:=HZ.out.2;omega)]
      obtain⟨av,cv,hvt⟩:=HX.out.sts.sl
      subst hvt;have d0:=hbl.out.cell 0 (v:= .int .i64 (stN z ks q)) rfl;have d1:=hbl.out.cell 1 (v:= .slice av (ks.map (trimS l ks)).length cv) rfl;rw[HST.out]at d0;have f0:=hbr.out.cell 0 (v:= .int .i64 0) rfl;have f1:=hbr.out.cell 1 (v:= .slice none 0 0) rfl;have f2:=hbr.out.fz 0;have f3:=hbr.out.fz 1;clear hqe hos hbl hbx hbr HST;generalize hq9:(ks.map (trimS l ks)).length=q9 at *
      generalize hpz:placeI ks z=pz at *;have HPZ:Hid (placeI ks z=pz):=hpz;clear hq9 hpz;go_wp2;exact bodyPost_ret (v:= .agg #[.int .i64 pz,.slice av q9 cv]) (by simp[results,Tryz.results41,go_sem, *]) rfl ⟨_,by rw[HPZ.out],(HX.out.setCell (by show w.heap.size+1<_;omega) _).setCell (by show w.heap.size+1<_;omega) _,by (have h:=hb.out);go_grown⟩
theorem trim_own (v:Value)(m:Mc)(w:World)(h:Mach w v m)(hok:okM m)(hr:faultM m=0):
  Calls Tryz.prog 19 #[v] w fun e w'=>∃ v',e= .returned (.tuple #[v',.int .i64 0])∧(∃ aa,Least (AheadC m.1 m.2) m.2.length aa∧∃ bs,Least (BackC m.2) m.2.length bs∧∃ vt,v'= .agg #[.int .i64 (trimM m.1 m.2 (keptL aa bs m.2.length)).1,vt]∧OwnSts w' w.heap.size vt (trimM m.1 m.2 (keptL aa bs m.2.length)).2)∧Below w.heap.size w w':=by
 obtain⟨z,l⟩:=m
 obtain⟨vs,rfl,hS⟩:=h
 obtain⟨a,cap,rfl⟩:=hS.sl
 have HM:Hid (Mach w (.agg #[.int .i64 z,.slice a l.length cap]) (z,l)):=⟨_,rfl,hS⟩
 have HK:Hid (okM (z,l)):=hok;have HR:Hid (faultM (z,l)=0):=hr;have h60:=(jjae hr).1;clear hS hok hr;simp only;generalize hn:l.length=n at *;have HN:Hid (l.length=n):=hn;clear hn;go_enter Tryz.func19,Tryz.ntmps19;go_wp2_with (first
  | (go_at_call 39;(with_reducible refine(ahead_ok _ (z,l) _ (HM.out.later (B:=w.heap.size) (by go_grown) (Nat.le_refl _)) HK.out HR.out).mono ?_);rintro e w1 ⟨va1,rfl,⟨aa,hBa,hLa⟩,hb⟩;obtain⟨s1,k0,k1,hb1⟩:=boxedTwo hb (by simp);have HLa:Hid (Least (AheadC z l) n aa):=(by have h9:=hLa;simp only at h9;rw[HN.out]at h9;exact h9);have HBa:Hid (Bools w1 va1 aa):=hBa;have K0:Hid (Blk w1 w.heap.size #[.int .i64 z,.slice a n cap] 24):=k0;have K1:Hid (Blk w1 (w.heap.size+1) #[.int .i64 0,.slice none 0 0] 24):=k1;have c0:=k0.cell 0 (v:= .int .i64 z) rfl;have c1:=k0.cell 1 (v:= .slice a n cap) rfl;have HB1:Hid (Below w.heap.size w w1):=hb1;clear k0 k1 hb hb1 hLa hBa)
  | (go_at_call 40;(with_reducible refine(back_ok _ (z,l) _ (HM.out.later HB1.out (Nat.le_refl _)) HK.out HR.out).mono ?_);rintro e w2 ⟨vb1,rfl,⟨bs,hBb,hLb⟩,hb⟩;have HLb:Hid (Least (BackC l) n bs):=(by have h9:=hLb;simp only at h9;rw[HN.out]at h9;exact h9);have HBb:Hid (Bools w2 vb1 bs):=hBb;have HBa2:Hid (Bools w2 va1 aa):=HBa.out.later hb (Nat.le_refl _);have L0:Hid (Blk w2 w.heap.size #[.int .i64 z,.slice a n cap] 24):=K0.out.below hb K0.out.lt;have L1:Hid (Blk w2 (w.heap.size+1) #[.int .i64 0,.slice none 0 0] 24):=K1.out.below hb K1.out.lt;have HB2:Hid (Below w.heap.size w w2):=HB1.out.trans (hb.mono HB1.out.size);have hs2:w.heap.size+2≤w2.heap.size:=Nat.le_trans s1 hb.size;clear hb hBb hLb))
 clear HBa HB1 K0 K1 c0 c1;have HS:HeldB w.heap.size z (.slice a n cap) w2.drew:=L0.out.drew;refine jjaf (HeldB w.heap.size z (.slice a n cap)) 1000 (by kernel_rfl) ?_
 refine jjaa (v:=?v0_1) aZ0 ?y0_1 HS ?r0_1
 case y0_1=>intro wx hx;obtain⟨x0,x1⟩:=hx.two;go_simp;try (with_reducible rfl)
 simp only[Act.put,sA,sB,sC];refine jjaa (v:=?v1_2) aZ1 ?y1_2 HS ?r1_2
 case y1_2=>intro wx hx;obtain⟨x0,x1⟩:=hx.two;go_simp;try (with_reducible rfl)
 simp only[Act.put,sA,sB,sC];refine jjaa (v:=?v2_3) aZ2 ?y2_3 HS ?r2_3
 case y2_3=>intro wx hx;obtain⟨x0,x1⟩:=hx.two;go_simp;try (with_reducible rfl)
 simp only[Act.put,sA,sB,sC];refine jjab aZ3 (fun K hK=>?_)
 go_simp;refine(numbered_any va1 vb1 aa bs n w2.drew (HBa2.out.later ((Below.refl w2.heap.size w2).drew) (Nat.le_refl _)) (HBb.out.later ((Below.refl w2.heap.size w2).drew) (Nat.le_refl _)) HLa.out.1 HLb.out.1 h60).mono ?_
 rintro e w3 ⟨vn,rfl,⟨ns,hnn,hnl,hne⟩,hb3⟩
 have hb3':Below w2.heap.size w2 w3:=jjbm hb3;have HS3:HeldB w.heap.size z (.slice a n cap) w3:=L0.out.below hb3' L0.out.lt;have L3:Hid (Blk w3 (w.heap.size+1) #[.int .i64 0,.slice none 0 0] 24):=L1.out.below hb3' L1.out.lt;have HB3:Hid (Below w.heap.size w w3):=HB2.out.trans (hb3'.mono HB2.out.size);have s3:w.heap.size+2≤w3.heap.size:=Nat.le_trans hs2 hb3'.size
 have HNN:Hid (Nums w3 vn ns∧ns.length=n∧∀ j,j<n→el ns j=placeI (keptL aa bs n) (j:Int)):=⟨hnn,hnl,hne⟩
 refine hK _ _ (.inr HS3) ?_
 try simp only[Act.put,sA,sB,sC]
 clear hb3 hb3' hnn hnl hne HS L0 L1 HB2;refine jjab aZ4 (fun K hK=>?_)
 go_simp;have HOC:=only_any z (.slice a n cap) l vn ns aa bs w3 (HM.out.later HB3.out (Nat.le_refl _)) HK.out HR.out HNN.out.1 (by rw[HN.out];exact HNN.out.2.1) (by rw[HN.out];exact HNN.out.2.2);rw[HN.out]at HOC;refine HOC.mono ?_
 clear HOC;rintro e w4 ⟨vt4,rfl,hm4,hb4⟩
 have HS4:HeldB w.heap.size z (.slice a n cap) w4:=HS3.below hb4 (by omega);have L4:Hid (Blk w4 (w.heap.size+1) #[.int .i64 0,.slice none 0 0] 24):=L3.out.below hb4 (by omega);have HB4:Hid (Below w.heap.size w w4):=HB3.out.trans (hb4.mono HB3.out.size);have HM4:Hid (OwnSts w4 (w3.heap.size+3) vt4 ((keptL aa bs n).map (trimS l (keptL aa bs n)))):=hm4;obtain⟨a4,cap4,hvt⟩:=hm4.sts.sl
 subst hvt;refine hK _ _ (.inr HS4) ?_
 try simp only[Act.put,sA,sB,sC]
 clear hb4 hm4 HS3 L3 HB3;have f0:=L4.out.cell 0 (v:= .int .i64 0) rfl;have f1:=L4.out.cell 1 (v:= .slice none 0 0) rfl;have f2:=L4.out.fz 0;have f3:=L4.out.fz 1;have HTM:Hid (trimM z l (keptL aa bs n)=(placeI (keptL aa bs n) z,(keptL aa bs n).map (trimS l (keptL aa bs n)))):=rfl;generalize hml:((keptL aa bs n).map (trimS l (keptL aa bs n))).length=q4 at *
 generalize placeI (keptL aa bs n) z=z4 at *;have HM5:Hid (OwnSts ((w4.setCell ⟨w.heap.size+1,0,none⟩ (.int .i64 z4)).setCell ⟨w.heap.size+1,1,none⟩ (.slice a4 q4 cap4)) (w3.heap.size+3) (.slice a4 q4 cap4) ((keptL aa bs n).map (trimS l (keptL aa bs n)))):=(HM4.out.setCell (by show w.heap.size+1<_;omega) _).setCell (by show w.heap.size+1<_;omega) _
 have HS5:HeldB w.heap.size z (.slice a n cap) ((w4.setCell ⟨w.heap.size+1,0,none⟩ (.int .i64 z4)).setCell ⟨w.heap.size+1,1,none⟩ (.slice a4 q4 cap4)):=(HS4.setO _ _ (by show w.heap.size≠w.heap.size+1;omega)).setO _ _ (by show w.heap.size≠w.heap.size+1;omega)
 have L5:Hid (Blk ((w4.setCell ⟨w.heap.size+1,0,none⟩ (.int .i64 z4)).setCell ⟨w.heap.size+1,1,none⟩ (.slice a4 q4 cap4)) (w.heap.size+1) #[.int .i64 z4,.slice a4 q4 cap4] 24):=(L4.out.set 0 _).set 1 _
 have HB5:Hid (Below w.heap.size w ((w4.setCell ⟨w.heap.size+1,0,none⟩ (.int .i64 z4)).setCell ⟨w.heap.size+1,1,none⟩ (.slice a4 q4 cap4))):=(HB4.out.setCell (by show w.heap.size≤w.heap.size+1;omega) _).setCell (by show w.heap.size≤w.heap.size+1;omega) _;clear hml;refine jjab aZ5 (fun K hK=>?_)
 go_simp;generalize (w4.setCell ⟨w.heap.size+1,0,none⟩ (.int .i64 z4)).setCell ⟨w.heap.size+1,1,none⟩ (.slice a4 q4 cap4)=w5 at *;refine hK _ _ (.inr HS5) ?_
 try simp only[Act.put,sA,sB,sC]
 clear f0 f1 f2 f3 HS4 L4 HM4;refine jjab aZ6 (fun K hK=>?_)
 go_simp;refine hK _ _ (.inr HS5) (jjad (by kernel_rfl) (NoPanic.normal ?_))
 try simp only[Act.put,sA,sB,sC]
 have d0:=L5.out.cell 0 (v:= .int .i64 z4) rfl;have d1:=L5.out.cell 1 (v:= .slice a4 q4 cap4) rfl;clear HS5;go_wp2;exact bodyPost_ret (v:= .tuple #[.agg #[.int .i64 z4,.slice a4 q4 cap4],.int .i64 0]) (by simp[results,Tryz.results19,go_sem, *]) rfl ⟨_,rfl,⟨aa,HLa.out,bs,HLb.out,by rw[HTM.out];exact⟨_,rfl,HM5.out.monoB (by omega)⟩⟩,HB5.out⟩
theorem trim_run (v:Value)(m:Mc)(w:World)(h:Mach w v m)(hok:okM m)(hr:faultM m=0):
  Calls Tryz.prog 19 #[v] w fun e w'=>∃ v',e= .returned (.tuple #[v',.int .i64 0])∧(∃ aa,Least (AheadC m.1 m.2) m.2.length aa∧∃ bs,Least (BackC m.2) m.2.length bs∧Mach w' v' (trimM m.1 m.2 (keptL aa bs m.2.length)))∧Below w.heap.size w w':=by
 refine(trim_own v m w h hok hr).mono ?_
 rintro e w' ⟨v',he,⟨aa,hA,bs,hB,vt,hv,hO⟩,hb⟩
 exact⟨v',he,⟨aa,hA,bs,hB,vt,hv,hO.sts⟩,hb⟩
theorem trim_bad (v:Value)(m:Mc)(w:World)(h:Mach w v m)(hok:okM m)(r:Int)(hr:faultM m=r)(h0:¬ r=0):
  Calls Tryz.prog 19 #[v] w fun e w'=>e= .returned (.tuple #[.agg #[.int .i64 0,.slice none 0 0],.int .i64 r])∧Below w.heap.size w w':=by
 obtain⟨z,l⟩:=m
 obtain⟨vs,rfl,hS⟩:=h
 obtain⟨a,cap,rfl⟩:=hS.sl
 have HM:Hid (Mach w (.agg #[.int .i64 z,.slice a l.length cap]) (z,l)):=⟨_,rfl,hS⟩
 have HK:Hid (okM (z,l)):=hok;have HR:Hid (faultM (z,l)=r):=hr;have H0:Hid (¬ r=0):=h0;clear hS hok hr;simp only;have hne:(r !=0)=true:=by simpa using h0
 generalize l.length=n at *;go_enter Tryz.func19,Tryz.ntmps19;go_wp2_with (first
  | (go_at_call 39;(with_reducible refine(ahead_bad _ (z,l) _ (HM.out.later (B:=w.heap.size) (by go_grown) (Nat.le_refl _)) HK.out r HR.out H0.out).mono ?_);rintro e w1 ⟨rfl,hb⟩;obtain⟨s1,k0,k1,hb1⟩:=boxedTwo hb (by simp);have HB1:Hid (Below w.heap.size w w1):=hb1;have e0:=k1.cell 0 (v:= .int .i64 0) rfl;have e1:=k1.cell 1 (v:= .slice none 0 0) rfl;have f0:=k1.fz 0;have f1:=k1.fz 1;clear hb hb1 k0 k1))
 exact bodyPost_ret (v:= .tuple #[.agg #[.int .i64 0,.slice none 0 0],.int .i64 r]) (by simp[results,Tryz.results19,go_sem, *]) rfl ⟨rfl,by (have h:=HB1.out);go_grown⟩
end Go.Proofs.YtppkiejhhmahcaaGreatDoor.Wt
