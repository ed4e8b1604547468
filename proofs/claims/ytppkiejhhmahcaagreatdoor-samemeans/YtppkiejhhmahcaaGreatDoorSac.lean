/- Facts, joined. -/
import Derived.Test.YtppkiejhhmahcaaGreatDoorSab
import Derived.Deep.DeepCutAuto
set_option linter.unusedSimpArgs false
set_option linter.unusedVariables false
set_option maxHeartbeats 6400000
set_option maxRecDepth 100000
namespace Go.Proofs.YtppkiejhhmahcaaGreatDoor.Wt
open ChangeShapes WideShapes ChangeAt RowKit Pl
theorem jjb1 {P:Program}{ops:Array Oper}{Q:Exit→Act→World→Prop}{rest:List Oper}{o:Oper}{a:Act}{w w':World}{v1 v2 v3:Value}(hgd:o.guard=none)(x y:Operand)(t:TypeId)(ho:o.op= .call {callee:= .builtin .append,args:=#[x,y],argTypes:=#[t,t]})(hx:a.eval x=v1)(hy:a.eval y=v2)
  (hr:(Builtin.append_ #[t,t] o.type #[v1,v2]).run P w= .ok v3 w') (h:wpList P ops Q rest (a.put o.dst v3) w'):wpList P ops Q (o::rest) a w:=
 wpList_plain hgd fun _ hK=>jjaw x y t ho hx hy hr (hK _ _ h)
def HeldM (X b off n cap i:Nat)(e:Ar)(w:World):Prop:=w.cell? ⟨X,2,none⟩=some (.slice (some ⟨b,off,none⟩) n cap)∧w.cell? ⟨b,off+i*4,none⟩=some (.int .i64 e.1)∧w.cell? ⟨b,off+i*4+1,none⟩=some (.int .i64 e.2.1)∧w.cell? ⟨b,off+i*4+2,none⟩=some (.int .i64 e.2.2.1)∧w.cell? ⟨b,off+i*4+3,none⟩=some (.int .i64 e.2.2.2)
theorem HeldM.alloc {X b off n cap i:Nat}{e:Ar}{w:World}(h:HeldM X b off n cap i e w)(o:Obj):HeldM X b off n cap i e (w.alloc o):=by
 obtain⟨h1,h2,h3,h4,h5⟩:=h
 have hb:Below w.heap.size w (w.alloc o):=(Below.refl _ _).alloc (Nat.le_refl _) o;exact⟨(hb.cell (World.block_lt_of_cell? _ _ h1)).trans h1,(hb.cell (World.block_lt_of_cell? _ _ h2)).trans h2,(hb.cell (World.block_lt_of_cell? _ _ h3)).trans h3,(hb.cell (World.block_lt_of_cell? _ _ h4)).trans h4,(hb.cell (World.block_lt_of_cell? _ _ h5)).trans h5⟩
theorem OwnSts.mono {w:World}{base base':Nat}{v:Value}{l:List St}(h:OwnSts w base v l)(hb:base'≤base):OwnSts w base' v l:=by
 obtain⟨vs,h1,h2,h3⟩:=h
 exact⟨vs,jjdv h1 hb,h2,fun j hj=>⟨(h3 j hj).1,jjdv (h3 j hj).2 hb⟩⟩
theorem blk3a (w:World)(c0 c1 c2:Array Value)(t0 t1 t2:TypeId):Blk (((w.alloc (.cells c0 t0)).alloc (.cells c1 t1)).alloc (.cells c2 t2)) w.heap.size c0 t0:=((Blk.made w c0 t0).alloc _).alloc _
theorem blk3b (w:World)(c0 c1 c2:Array Value)(t0 t1 t2:TypeId):Blk (((w.alloc (.cells c0 t0)).alloc (.cells c1 t1)).alloc (.cells c2 t2)) (w.heap.size+1) c1 t1:=by
 have h:=Blk.made (w.alloc (.cells c0 t0)) c1 t1;simp only[World.size_alloc]at h;exact h.alloc _
theorem blk3c (w:World)(c0 c1 c2:Array Value)(t0 t1 t2:TypeId):Blk (((w.alloc (.cells c0 t0)).alloc (.cells c1 t1)).alloc (.cells c2 t2)) (w.heap.size+2) c2 t2:=by
 have h:=Blk.made ((w.alloc (.cells c0 t0)).alloc (.cells c1 t1)) c2 t2;simp only[World.size_alloc]at h;exact h
theorem blk2b (w:World)(c0 c1:Array Value)(t0 t1:TypeId):Blk ((w.alloc (.cells c0 t0)).alloc (.cells c1 t1)) (w.heap.size+1) c1 t1:=by
 have h:=Blk.made (w.alloc (.cells c0 t0)) c1 t1;simp only[World.size_alloc]at h;exact h
theorem jjc5 {w w':World}(hb:Below w.heap.size w w'):w.grownBy w' none:=⟨hb.os,hb.tape,hb.output,hb.size,fun k hk _=>hb.block k hk⟩
theorem statesM_empty {r:Rw}{n k:Nat}{full:Bool}(hk:k<n)(h:r.2.length≤k):el (statesM r n full) k=(0,[]):=by
 unfold statesM;rw[jjan _ hk,if_pos h]
theorem statesM_node {r:Rw}{n k:Nat}{full:Bool}(hk:k<n)(h:k<r.2.length):el (statesM r n full) k=stM n full (el r.2 k):=by
 unfold statesM;rw[jjan _ hk,if_neg (by omega)]
theorem made_own (v:Value)(r:Rw)(states:Nat)(full:Bool)(w:World)(h:RawV w v r)(hok:okR r)(hwf:wfR r)(hs0:0<states)(hs8:states≤8):
  Calls Tryz.prog 13 #[v,.int .i64 (states:Int),.bool full] w fun e w'=>∃ vs,e= .returned (.agg #[.int .i64 (madeM r states full).1,vs])∧OwnSts w' w.heap.size vs (madeM r states full).2∧Below w.heap.size w w':=by
 obtain⟨i0,hi0,hz0,hz1,hz2⟩:=info_parts infoArc
 obtain⟨z,l⟩:=r
 obtain⟨vs,rfl,hS⟩:=h
 obtain⟨a,cap,rfl,hc⟩:=hS.get
 have HZ:Hid ((Lit.int .i64 z).wf=true):=hwf.1;have HW:Hid (∀ j,j<l.length→(Lit.int .i64 (el l j).1).wf=true∧∀ a ∈ (el l j).2.2,wfA a):=fun j hj=>hwf.2 _ (jjac hj)
 have HC:Hid (∀ j,j<l.length→∃ b off va,a=some ⟨b,off,none⟩∧b<w.heap.size∧w.cell? ⟨b,off+j*3,none⟩=some (.int .i64 (el l j).1)∧w.cell? ⟨b,off+j*3+1,none⟩=some (.bool (el l j).2.1)∧w.cell? ⟨b,off+j*3+2,none⟩=some va∧Arcs w va (el l j).2.2):=hc;have hL:l.length*40≤140737488351232:=hok.1;have HK:Hid (∀ j,j<l.length→(el l j).2.2.length*32≤140737488351232):=hok.2
 have hn0:0<sizeM (z,l) states:=by unfold sizeM;omega
 have hn8:sizeM (z,l) states≤8:=by unfold sizeM;omega
 have HSZ:Hid (sizeM (z,l) states=min (max l.length 1) states):=rfl;have HMD:Hid (madeM (z,l) states full=(pkR z (sizeM (z,l) states),statesM (z,l) (sizeM (z,l) states) full)):=rfl;have HMX:Hid (∀ k,k<sizeM (z,l) states→l.length≤k→el (statesM (z,l) (sizeM (z,l) states) full) k=(0,[])):=fun k hk h=>statesM_empty hk h
 have HMN:Hid (∀ k,k<sizeM (z,l) states→k<l.length→el (statesM (z,l) (sizeM (z,l) states) full) k=stM (sizeM (z,l) states) full (el l k)):=fun k hk h=>statesM_node hk h
 have HSL:Hid ((statesM (z,l) (sizeM (z,l) states) full).length=sizeM (z,l) states):=jjcj _ _ _;clear hS hc hok hwf;simp only;generalize sizeM (z,l) states=n at *;generalize statesM (z,l) n full=SL at *;generalize hN:l.length=N at *;have HN:Hid (l.length=N):=hN;clear hN;go_enter Tryz.func13,Tryz.ntmps13;go_upto_region 1 with fail
 go_cut [7] (fun t wx=>t= .int .i64 (n:Int)∧wx=(w.alloc (.cells #[.int .i64 z,.slice a N cap] 35)).alloc (.cells #[.int .i64 0,.slice none 0 0] 24))
 case first=>
  have e:=HSZ.out;by_cases h1:(1:Int)<(N:Int)
  ·by_cases h2:(states:Int)<(N:Int)
   ·have hx:¬ (N:Int)<1:=by omega
    go_wp2
    all_goals (first | (go_meet;case rel=>(refine⟨?_,rfl⟩;congr 1;omega)) | (exfalso;omega))
   ·go_wp2
    all_goals (first | (go_meet;case rel=>(refine⟨?_,rfl⟩;congr 1;omega)) | (exfalso;omega))
  ·go_wp2
   all_goals (first | (go_meet;case rel=>(refine⟨?_,rfl⟩;congr 1;omega)) | (exfalso;omega))
 case rest=>
  obtain⟨rfl,rfl⟩:=hcut
  generalize hst:pkR z (n:Int)=st;have HST:Hid (pkR z (n:Int)=st):=hst;clear hst;have hnp:(0:Int)<(n:Int):=by omega
  go_wp2_with (first | (go_at_call 31;(with_reducible refine(jja6 _ _ _ HZ.out (by omega) (by omega) _ HST.out).mono ?_);rintro e w9 ⟨rfl,rfl⟩))
  go_loopw [9] (fun i wr=>∃ (k:Nat) (vo:Value),k≤n∧i= .int .i64 k∧Hid (OwnSts wr (w.heap.size+3) vo (SL.take k))∧Hid (Blk wr w.heap.size #[.int .i64 z,.slice a N cap] 35)∧Hid (Blk wr (w.heap.size+1) #[.int .i64 0,.slice none 0 0] 24)∧Hid (Blk wr (w.heap.size+2) #[.int .i64 st,vo] 24)∧w.heap.size+3≤wr.heap.size∧Hid (Below w.heap.size w wr)) (fun i _=>n-(intOf i).toNat)
  case atStart=>exact ⟨0,.slice none 0 0,Nat.zero_le _,rfl,OwnSts.nil _ _,blk3a _ _ _ _ _ _ _,blk3b _ _ _ _ _ _ _,blk3c _ _ _ _ _ _ _,by simp,by (show Below _ _ _);go_grown⟩
  case round=>
   obtain⟨k,vo,hk,rfl,hown,b0,b1,b2,hs,hb⟩:=hrel
   have c1:=b0.out.cell 1 (v:= .slice a N cap) rfl;have d1:=b2.out.cell 1 (v:=vo) rfl;have d2:=b2.out.fz 1;by_cases hlt:k<n
   ·by_cases hkN:N≤k
    ·-- a state that is not told
     have HE:Hid (SL.take (k+1)=SL.take k++[(0,[])]):=by show _=_;rw[jja0 (by rw[HSL.out];exact hlt),HMX.out k hlt hkN]
     have hge:¬ (k:Int)<(N:Int):=by omega
     have hge2:(N:Int)≤(k:Int):=by omega
     have hlt':(k:Int)<(n:Int):=by omega
     have z1:w.heap.size<wr.heap.size:=by omega
     have z2:w.heap.size+1+1<wr.heap.size:=by omega
     have z3:w.heap.size+2<wr.heap.size:=by omega
     obtain⟨v3,w3,r3,ho3,B3⟩:=jjey (W:=(wr.alloc (.cells #[.int .i64 0,.slice none 0 0] 45)).alloc (.cells #[.int .i64 0,.slice none 0 0] 45)) (0,[]) (SL.take k) (.slice none 0 0) vo (w.heap.size+3) (w1:=wr.alloc (.cells #[.int .i64 0,.slice none 0 0] 45)) rfl rfl rfl rfl (hown.out.kept (World.grownBy_alloc _ _ _)) (World.ownsRow_nil _ _ _ _) (by rw[List.length_take];omega) (by simp;omega)
     obtain⟨a3,cp3,rfl⟩:=ho3.sts.sl
     simp only[World.size_alloc]at r3;have HR3:Hid _:=r3;clear r3;have HB3:Hid (Below (w.heap.size+3) wr w3):=((Below.refl _ _).alloc hs _).trans B3;have HO3:Hid (OwnSts w3 (w.heap.size+3) (.slice a3 (SL.take k++[(0,[])]).length cp3) (SL.take (k+1))):=by rw[HE.out];exact ho3
     have D0:Hid (Blk w3 w.heap.size #[.int .i64 z,.slice a N cap] 35):=b0.out.below HB3.out (by omega);have D1:Hid (Blk w3 (w.heap.size+1) #[.int .i64 0,.slice none 0 0] 24):=b1.out.below HB3.out (by omega);have D2:Hid (Blk w3 (w.heap.size+2) #[.int .i64 st,vo] 24):=b2.out.below HB3.out (by omega);have e1:=D2.out.cell 1 (v:=vo) rfl;have e2:=D2.out.fz 1
     have hs3:w.heap.size+3≤w3.heap.size:=Nat.le_trans hs HB3.out.size;have HBB:Hid (Below w.heap.size w w3):=hb.out.trans (HB3.out.mono (by omega));clear ho3 B3 hown b0 b1 b2 hb;generalize (SL.take k++[((0:Int),([]:List Ar))]).length=q at *;go_wp2_with (first
      | (at_builtin;refine jjb1 rfl _ _ 22 rfl rfl rfl HR3.out ?_))
     go_roundw
     case rel=>exact ⟨k+1,_,by omega,by go_num,HO3.out.setCell (by show w.heap.size+2<_;omega) _,D0.out.setO _ _ (by show w.heap.size≠w.heap.size+2;omega),D1.out.setO _ _ (by show w.heap.size+1≠w.heap.size+2;omega),D2.out.set 1 _,by simp[World.setCell];exact hs3,HBB.out.setCell (by show _≤w.heap.size+2;omega) _⟩
     case measure=>simp [intOf];omega
    ·-- a state that is told
     have hkN':k<N:=by omega
     obtain⟨b,off,va,rfl,hbl,g0,g1,g2,gA⟩:=HC.out k hkN'
     have g0:=(hb.out.cell (p:=⟨b,off+k*3,none⟩) hbl).trans g0;have g1:=(hb.out.cell (p:=⟨b,off+k*3+1,none⟩) hbl).trans g1;have g2:=(hb.out.cell (p:=⟨b,off+k*3+2,none⟩) hbl).trans g2;have GA:=gA.later hb.out (Nat.le_refl _);have HWX:=HW.out k hkN';have HLK:=HK.out k hkN';have HE:Hid (SL.take (k+1)=SL.take k++[stM n full (el l k)]):=by show _=_;rw[jja0 (by rw[HSL.out];exact hlt),HMN.out k hlt hkN']
     clear gA;generalize el l k=x at *;obtain⟨xf,xe,xa⟩:=x
     have HWF:Hid ((Lit.int .i64 xf).wf=true):=HWX.1;have HWA:Hid (∀ a ∈ xa,wfA a):=HWX.2;obtain⟨a2,cap2,hva,gc⟩:=GA.get
     have GC:Hid (∀ j,j<xa.length→∃ b off,a2=some ⟨b,off,none⟩∧b<wr.heap.size∧wr.cell? ⟨b,off+j*4,none⟩=some (.int .i64 (el xa j).1)∧wr.cell? ⟨b,off+j*4+1,none⟩=some (.int .i64 (el xa j).2.1)∧wr.cell? ⟨b,off+j*4+2,none⟩=some (.int .i64 (el xa j).2.2.1)∧wr.cell? ⟨b,off+j*4+3,none⟩=some (.int .i64 (el xa j).2.2.2)):=gc;subst hva;clear HWX GA gc;have hlk:xa.length*32≤140737488351232:=HLK;clear HLK
     generalize hL2:xa.length=L at *;have HL2:Hid (xa.length=L):=hL2;clear hL2;obtain⟨wo,hwo⟩:∃ wo,wo=wr:=⟨wr,rfl⟩
     subst hwo;have hlt':(k:Int)<(n:Int):=by omega
     have hge:(k:Int)<(N:Int):=by omega
     have hk0':(0:Int)≤(k:Int):=by omega
     have z1:w.heap.size<wo.heap.size:=by omega
     have z2:w.heap.size+1+1<wo.heap.size:=by omega
     have z4:b<wo.heap.size:=Nat.lt_of_lt_of_le hbl hb.out.size;generalize hF:(if xe=true then pkR xf 10 else 1000000001)=F;have HF:Hid ((if xe=true then pkR xf 10 else 1000000001)=F):=hF;clear hF;go_upto_if 49 with fail
     go_cut [] (fun wx=>Hid (Blk wx wo.heap.size #[.int .i64 F,.slice none 0 0] 45)∧Hid (Blk wx (wo.heap.size+1) #[.int .i64 xf,.bool xe,.slice a2 L cap2] 53)∧Hid (Below wo.heap.size wo wx)∧wo.heap.size+2≤wx.heap.size)
     case first=>
      cases xe
      ·go_wp2
       go_meet
       case rel=>exact ⟨by rw[← HF.out];exact(Blk.made _ _ _).alloc _,blk2b _ _ _ _ _,by (show Below _ _ _);go_grown,by simp⟩
      ·go_wp2_with (first | (go_at_call 31;(with_reducible refine(jja6 _ _ _ HWF.out (by omega) (by omega) _ rfl).mono ?_);rintro e w9 ⟨rfl,rfl⟩))
       go_meet
       case rel=>exact ⟨by rw[← HF.out];exact(Blk.made _ _ _).alloc _,blk2b _ _ _ _ _,by (show Below _ _ _);go_grown,by simp⟩
     case rest=>
      obtain⟨hsb,hxb,hbo,hso⟩:=hcut
      clear g0 g1 g2;have m2:=hxb.out.cell 2 (v:= .slice a2 L cap2) rfl;go_wp2
      go_loopw [12] (fun i wr=>∃ (j:Nat) (vr:Value),j≤L∧j≤4∧i= .int .i64 j∧Hid (wr.ownsRow (wo.heap.size+2) 56 4 vr ((xa.take j).map (arM n full)).length (((xa.take j).map (arM n full)).flatMap encA))∧Hid (Blk wr wo.heap.size #[.int .i64 F,vr] 45)∧Hid (Blk wr (wo.heap.size+1) #[.int .i64 xf,.bool xe,.slice a2 L cap2] 53)∧Hid (Below wo.heap.size wo wr)∧wo.heap.size+2≤wr.heap.size) (fun i _=>4-(intOf i).toNat)
      case atStart=>exact ⟨0,_,Nat.zero_le _,by omega,rfl,World.ownsRow_nil _ _ _ _,hsb,hxb,hbo,hso⟩
      case round=>
       obtain⟨j,vr,hjL,hj4,rfl,hri,hsi,hxi,hbi,hsz⟩:=hrel
       by_cases hj1:j<L
       ·by_cases hj2:j<4
        ·skip
         obtain⟨b2,off2,rfl,hb2l,r0,r1,r2,r3⟩:=GC.out j hj1
         have HT:Hid ((xa.take (j+1)).map (arM n full)=(xa.take j).map (arM n full)++[arM n full (el xa j)]):=by show _=_;rw[jja0 (by rw[HL2.out];exact hj1)];simp
         have HWE:=HWA.out (el xa j) (jjac (by rw[HL2.out];exact hj1));have hml:Hid (((xa.take j).map (arM n full)).length≤4):=by show _≤_;simp;omega
         have r0:=(hbi.out.cell (p:=⟨b2,off2+j*4,none⟩) hb2l).trans r0;have r1:=(hbi.out.cell (p:=⟨b2,off2+j*4+1,none⟩) hb2l).trans r1;have r2:=(hbi.out.cell (p:=⟨b2,off2+j*4+2,none⟩) hb2l).trans r2;have r3:=(hbi.out.cell (p:=⟨b2,off2+j*4+3,none⟩) hb2l).trans r3;have x2:=hxi.out.cell 2 (v:= .slice (some ⟨b2,off2,none⟩) L cap2) rfl;have e4:(j:Int)<4:=by omega
         have e5:(j:Int)<(L:Int):=by omega
         have e6:(0:Int)≤(j:Int):=by omega
         generalize el xa j=ed at *;generalize hm:(xa.take j).map (arM n full)=m at *;clear hm;generalize hq0:pkR ed.1 3=q0;generalize hq1:pkR ed.2.1 3=q1;generalize hq2:pkR ed.2.2.1 10=q2;generalize hq3:pkR ed.2.2.2 (n:Int)=q3;have H0:(Lit.int .i64 ed.1).wf=true∧pkR ed.1 3=q0:=⟨HWE.1,hq0⟩
         have H1:(Lit.int .i64 ed.2.1).wf=true∧pkR ed.2.1 3=q1:=⟨HWE.2.1,hq1⟩
         have H2:(Lit.int .i64 ed.2.2.1).wf=true∧pkR ed.2.2.1 10=q2:=⟨HWE.2.2.1,hq2⟩
         have H3:(Lit.int .i64 ed.2.2.2).wf=true∧pkR ed.2.2.2 (n:Int)=q3:=⟨HWE.2.2.2,hq3⟩
         have HP:Hid (arM n full ed=(if(full&&decide (q0=0)&&decide (q1=0))=true then 1 else q0,q1,q2,q3)):=by show _=_;unfold arM;rw[hq0,hq1,hq2,hq3]
         have HH0:Hid ((Lit.int .i64 ed.1).wf=true∧pkR ed.1 3=q0):=H0;have HH1:Hid ((Lit.int .i64 ed.2.1).wf=true∧pkR ed.2.1 3=q1):=H1;have HH2:Hid ((Lit.int .i64 ed.2.2.1).wf=true∧pkR ed.2.2.1 10=q2):=H2;have HH3:Hid ((Lit.int .i64 ed.2.2.2).wf=true∧pkR ed.2.2.2 (n:Int)=q3):=H3;clear hq0 hq1 hq2 hq3 H0 H1 H2 H3 HWE;have hnp:(0:Int)<(n:Int):=by omega
         go_upto_region 16 with fail
         go_cut [13] (fun t wx=>t= .pointer (some ⟨wr.heap.size,0,none⟩)∧wx=wr.drew.alloc (.cells #[.int .i64 q0,.int .i64 q1,.int .i64 q2,.int .i64 q3] 56))
         case first=>
          have H0:=HH0.out;have H1:=HH1.out;have H2:=HH2.out;have H3:=HH3.out;have HS:HeldM (wo.heap.size+1) b2 off2 L cap2 j ed wr.drew:=⟨x2,r0,r1,r2,r3⟩
          have HSA:HeldM (wo.heap.size+1) b2 off2 L cap2 j ed (wr.drew.alloc (.cells #[.int .i64 0,.int .i64 0,.int .i64 0,.int .i64 0] 56)):=HS.alloc _;refine jjaf (HeldM (wo.heap.size+1) b2 off2 L cap2 j ed) 31 (by kernel_rfl) ?_
          clear r0 r1 r2 r3 x2;refine jjaa (v:=?v0_1) aZ0 ?y0_1 HS ?r0_1
          case y0_1=>intro wx hx;obtain⟨h1,h2,h3,h4,h5⟩:=hx;go_simp;try (with_reducible rfl)
          simp only[Act.put,sA,sB,sC];refine jjaa (v:=?v1_2) aZ1 ?y1_2 HS ?r1_2
          case y1_2=>intro wx hx;obtain⟨h1,h2,h3,h4,h5⟩:=hx;go_simp;try (with_reducible rfl)
          simp only[Act.put,sA,sB,sC];refine jjaa (v:=?v2_3) aZ2 ?y2_3 HS ?r2_3
          case y2_3=>intro wx hx;obtain⟨h1,h2,h3,h4,h5⟩:=hx;go_simp;try (with_reducible rfl)
          simp only[Act.put,sA,sB,sC];refine jjaa (v:=?v3_4) aZ3 ?y3_4 HS ?r3_4
          case y3_4=>intro wx hx;obtain⟨h1,h2,h3,h4,h5⟩:=hx;go_simp;try (with_reducible rfl)
          simp only[Act.put,sA,sB,sC];refine jjaa (v:=?v4_5) aZ4 ?y4_5 HS ?r4_5
          case y4_5=>intro wx hx;obtain⟨h1,h2,h3,h4,h5⟩:=hx;go_simp;try (with_reducible rfl)
          simp only[Act.put,sA,sB,sC];refine jjaa (v:=?v5_6) aZ5 ?y5_6 HS ?r5_6
          case y5_6=>intro wx hx;obtain⟨h1,h2,h3,h4,h5⟩:=hx;go_simp;try (with_reducible rfl)
          simp only[Act.put,sA,sB,sC];refine jjaa (v:=?v7_7) aZ7 ?y7_7 HS ?r7_7
          case y7_7=>intro wx hx;obtain⟨h1,h2,h3,h4,h5⟩:=hx;go_simp;try (with_reducible rfl)
          simp only[Act.put,sA,sB,sC];refine jjaa (v:=?v8_8) aZ8 ?y8_8 HS ?r8_8
          case y8_8=>intro wx hx;obtain⟨h1,h2,h3,h4,h5⟩:=hx;go_simp;try (with_reducible rfl)
          simp only[Act.put,sA,sB,sC];refine jjaa (v:=?v9_9) aZ9 ?y9_9 HS ?r9_9
          case y9_9=>intro wx hx;obtain⟨h1,h2,h3,h4,h5⟩:=hx;go_simp;try (with_reducible rfl)
          simp only[Act.put,sA,sB,sC];refine jjaa (v:=?v10_10) aZ10 ?y10_10 HS ?r10_10
          case y10_10=>intro wx hx;obtain⟨h1,h2,h3,h4,h5⟩:=hx;go_simp;try (with_reducible rfl)
          simp only[Act.put,sA,sB,sC];refine jjaa (v:=?v11_11) aZ11 ?y11_11 HS ?r11_11
          case y11_11=>intro wx hx;obtain⟨h1,h2,h3,h4,h5⟩:=hx;go_simp;try (with_reducible rfl)
          simp only[Act.put,sA,sB,sC];refine jjaa (v:=?v12_12) aZ12 ?y12_12 HS ?r12_12
          case y12_12=>intro wx hx;obtain⟨h1,h2,h3,h4,h5⟩:=hx;go_simp;try (with_reducible rfl)
          simp only[Act.put,sA,sB,sC];refine jjaa (v:=?v14_13) aZ14 ?y14_13 HS ?r14_13
          case y14_13=>intro wx hx;obtain⟨h1,h2,h3,h4,h5⟩:=hx;go_simp;try (with_reducible rfl)
          simp only[Act.put,sA,sB,sC];refine jjaa (v:=?v15_14) aZ15 ?y15_14 HS ?r15_14
          case y15_14=>intro wx hx;obtain⟨h1,h2,h3,h4,h5⟩:=hx;go_simp;try (with_reducible rfl)
          simp only[Act.put,sA,sB,sC];refine jjaa (v:=?v16_15) aZ16 ?y16_15 HS ?r16_15
          case y16_15=>intro wx hx;obtain⟨h1,h2,h3,h4,h5⟩:=hx;go_simp;try (with_reducible rfl)
          simp only[Act.put,sA,sB,sC];refine jjaa (v:=?v17_16) aZ17 ?y17_16 HS ?r17_16
          case y17_16=>intro wx hx;obtain⟨h1,h2,h3,h4,h5⟩:=hx;go_simp;try (with_reducible rfl)
          simp only[Act.put,sA,sB,sC];refine jjaa (v:=?v18_17) aZ18 ?y18_17 HS ?r18_17
          case y18_17=>intro wx hx;obtain⟨h1,h2,h3,h4,h5⟩:=hx;go_simp;try (with_reducible rfl)
          simp only[Act.put,sA,sB,sC];refine jjaa (v:=?v19_18) aZ19 ?y19_18 HS ?r19_18
          case y19_18=>intro wx hx;obtain⟨h1,h2,h3,h4,h5⟩:=hx;go_simp;try (with_reducible rfl)
          simp only[Act.put,sA,sB,sC];refine jjaa (v:=?v21_19) aZ21 ?y21_19 HS ?r21_19
          case y21_19=>intro wx hx;obtain⟨h1,h2,h3,h4,h5⟩:=hx;go_simp;try (with_reducible rfl)
          simp only[Act.put,sA,sB,sC];refine jjaa (v:=?v22_20) aZ22 ?y22_20 HS ?r22_20
          case y22_20=>intro wx hx;obtain⟨h1,h2,h3,h4,h5⟩:=hx;go_simp;try (with_reducible rfl)
          simp only[Act.put,sA,sB,sC];refine jjaa (v:=?v23_21) aZ23 ?y23_21 HS ?r23_21
          case y23_21=>intro wx hx;obtain⟨h1,h2,h3,h4,h5⟩:=hx;go_simp;try (with_reducible rfl)
          simp only[Act.put,sA,sB,sC];refine jjaa (v:=?v24_22) aZ24 ?y24_22 HS ?r24_22
          case y24_22=>intro wx hx;obtain⟨h1,h2,h3,h4,h5⟩:=hx;go_simp;try (with_reducible rfl)
          simp only[Act.put,sA,sB,sC];refine jjaa (v:=?v25_23) aZ25 ?y25_23 HS ?r25_23
          case y25_23=>intro wx hx;obtain⟨h1,h2,h3,h4,h5⟩:=hx;go_simp;try (with_reducible rfl)
          simp only[Act.put,sA,sB,sC];refine jjaa (v:=?v26_24) aZ26 ?y26_24 HS ?r26_24
          case y26_24=>intro wx hx;obtain⟨h1,h2,h3,h4,h5⟩:=hx;go_simp;try (with_reducible rfl)
          simp only[Act.put,sA,sB,sC];refine jjaa (v:=?v27_25) aZ27 ?y27_25 HS ?r27_25
          case y27_25=>intro wx hx;obtain⟨h1,h2,h3,h4,h5⟩:=hx;go_simp;try (with_reducible rfl)
          simp only[Act.put,sA,sB,sC];refine jjbp (rs:=[6,30]) (by kernel_rfl) (by simp) (List.forall_mem_cons.2 ⟨⟨_,aZ6,rfl,fun K hK=>?_⟩,List.forall_mem_cons.2 ⟨⟨_,(atS (atS (atS (atS (atS (atS (atS (atS (atS (atS (atS (atS (atS (atS (atS (atS (atS (atS (atS (atS (atS (atS (atS (atS (atS (atS (atS (atS (atS (atS at0)))))))))))))))))))))))))))))),rfl,fun K hK=>?_⟩,fun _ h=>absurd h (by simp)⟩⟩)
          ·
            go_simp;refine(jja6 _ 3 _ H0.1 (by omega) (by omega) _ H0.2).mono ?_
            rintro e w9 ⟨rfl,rfl⟩
            refine hK _ _ (.inr HS) ?_
            try simp only[Act.put,sA,sB,sC]
            refine jjbp (rs:=[13,30]) (by kernel_rfl) (by simp) (List.forall_mem_cons.2 ⟨⟨_,aZ13,rfl,fun K hK=>?_⟩,List.forall_mem_cons.2 ⟨⟨_,(atS (atS (atS (atS (atS (atS (atS (atS (atS (atS (atS (atS (atS (atS (atS (atS (atS (atS (atS (atS (atS (atS (atS (atS (atS (atS (atS (atS (atS (atS at0)))))))))))))))))))))))))))))),rfl,fun K hK=>?_⟩,fun _ h=>absurd h (by simp)⟩⟩)
            ·
             go_simp;refine(jja6 _ 3 _ H1.1 (by omega) (by omega) _ H1.2).mono ?_
             rintro e w9 ⟨rfl,rfl⟩
             refine hK _ _ (.inr HS) ?_
             try simp only[Act.put,sA,sB,sC]
             refine jjbp (rs:=[20,30]) (by kernel_rfl) (by simp) (List.forall_mem_cons.2 ⟨⟨_,aZ20,rfl,fun K hK=>?_⟩,List.forall_mem_cons.2 ⟨⟨_,(atS (atS (atS (atS (atS (atS (atS (atS (atS (atS (atS (atS (atS (atS (atS (atS (atS (atS (atS (atS (atS (atS (atS (atS (atS (atS (atS (atS (atS (atS at0)))))))))))))))))))))))))))))),rfl,fun K hK=>?_⟩,fun _ h=>absurd h (by simp)⟩⟩)
             ·
              go_simp;refine(jja6 _ 10 _ H2.1 (by omega) (by omega) _ H2.2).mono ?_
              rintro e w9 ⟨rfl,rfl⟩
              refine hK _ _ (.inr HS) ?_
              try simp only[Act.put,sA,sB,sC]
              refine jjbp (rs:=[28,30]) (by kernel_rfl) (by simp) (List.forall_mem_cons.2 ⟨⟨_,(atS (atS (atS (atS (atS (atS (atS (atS (atS (atS (atS (atS (atS (atS (atS (atS (atS (atS (atS (atS (atS (atS (atS (atS (atS (atS (atS (atS at0)))))))))))))))))))))))))))),rfl,fun K hK=>?_⟩,List.forall_mem_cons.2 ⟨⟨_,(atS (atS (atS (atS (atS (atS (atS (atS (atS (atS (atS (atS (atS (atS (atS (atS (atS (atS (atS (atS (atS (atS (atS (atS (atS (atS (atS (atS (atS (atS at0)))))))))))))))))))))))))))))),rfl,fun K hK=>?_⟩,fun _ h=>absurd h (by simp)⟩⟩)
              ·
               go_simp;refine(jja6 _ (n:Int) _ H3.1 (by omega) (by omega) _ H3.2).mono ?_
               rintro e w9 ⟨rfl,rfl⟩
               refine hK _ _ (.inr HS) ?_
               try simp only[Act.put,sA,sB,sC]
               refine jjaa (v:=?v29_26) aZ29 ?y29_26 HS ?r29_26
               case y29_26=>intro wx hx;obtain⟨h1,h2,h3,h4,h5⟩:=hx;go_simp;try (with_reducible rfl)
               simp only[Act.put,sA,sB,sC];refine jjab (i:=30) (atS (atS (atS (atS (atS (atS (atS (atS (atS (atS (atS (atS (atS (atS (atS (atS (atS (atS (atS (atS (atS (atS (atS (atS (atS (atS (atS (atS (atS (atS at0)))))))))))))))))))))))))))))) (fun K hK=>?_)
               go_simp;refine hK _ _ (.inr HSA) ?_
               try simp only[Act.put,sA,sB,sC]
               refine jjab (i:=31) (atS (atS (atS (atS (atS (atS (atS (atS (atS (atS (atS (atS (atS (atS (atS (atS (atS (atS (atS (atS (atS (atS (atS (atS (atS (atS (atS (atS (atS (atS (atS at0))))))))))))))))))))))))))))))) (fun K hK=>?_)
               go_simp;refine hK _ _ (.inl rfl) (jjad (by kernel_rfl) (NoPanic.normal ?_))
               try simp only[Act.put,sA,sB,sC]
               go_wp2;go_meet
               case rel=>exact ⟨rfl,rfl⟩
              ·
               go_simp;refine hK _ _ (.inr HSA) ?_
               try simp only[Act.put,sA,sB,sC]
               refine jjab (i:=28) (atS (atS (atS (atS (atS (atS (atS (atS (atS (atS (atS (atS (atS (atS (atS (atS (atS (atS (atS (atS (atS (atS (atS (atS (atS (atS (atS (atS at0)))))))))))))))))))))))))))) (fun K hK=>?_)
               go_simp;refine(jja6 _ (n:Int) _ H3.1 (by omega) (by omega) _ H3.2).mono ?_
               rintro e w9 ⟨rfl,rfl⟩
               refine hK _ _ (.inr HSA) ?_
               try simp only[Act.put,sA,sB,sC]
               refine jjaa (v:=?v29_27) aZ29 ?y29_27 HSA ?r29_27
               case y29_27=>intro wx hx;obtain⟨h1,h2,h3,h4,h5⟩:=hx;go_simp;try (with_reducible rfl)
               simp only[Act.put,sA,sB,sC];refine jjab (i:=31) (atS (atS (atS (atS (atS (atS (atS (atS (atS (atS (atS (atS (atS (atS (atS (atS (atS (atS (atS (atS (atS (atS (atS (atS (atS (atS (atS (atS (atS (atS (atS at0))))))))))))))))))))))))))))))) (fun K hK=>?_)
               go_simp;refine hK _ _ (.inl rfl) (jjad (by kernel_rfl) (NoPanic.normal ?_))
               try simp only[Act.put,sA,sB,sC]
               go_wp2;go_meet
               case rel=>exact ⟨rfl,rfl⟩
             ·
              go_simp;refine hK _ _ (.inr HSA) ?_
              try simp only[Act.put,sA,sB,sC]
              refine jjab aZ20 (fun K hK=>?_)
              go_simp;refine(jja6 _ 10 _ H2.1 (by omega) (by omega) _ H2.2).mono ?_
              rintro e w9 ⟨rfl,rfl⟩
              refine hK _ _ (.inr HSA) ?_
              try simp only[Act.put,sA,sB,sC]
              refine jjab (i:=28) (atS (atS (atS (atS (atS (atS (atS (atS (atS (atS (atS (atS (atS (atS (atS (atS (atS (atS (atS (atS (atS (atS (atS (atS (atS (atS (atS (atS at0)))))))))))))))))))))))))))) (fun K hK=>?_)
              go_simp;refine(jja6 _ (n:Int) _ H3.1 (by omega) (by omega) _ H3.2).mono ?_
              rintro e w9 ⟨rfl,rfl⟩
              refine hK _ _ (.inr HSA) ?_
              try simp only[Act.put,sA,sB,sC]
              refine jjaa (v:=?v29_28) aZ29 ?y29_28 HSA ?r29_28
              case y29_28=>intro wx hx;obtain⟨h1,h2,h3,h4,h5⟩:=hx;go_simp;try (with_reducible rfl)
              simp only[Act.put,sA,sB,sC];refine jjab (i:=31) (atS (atS (atS (atS (atS (atS (atS (atS (atS (atS (atS (atS (atS (atS (atS (atS (atS (atS (atS (atS (atS (atS (atS (atS (atS (atS (atS (atS (atS (atS (atS at0))))))))))))))))))))))))))))))) (fun K hK=>?_)
              go_simp;refine hK _ _ (.inl rfl) (jjad (by kernel_rfl) (NoPanic.normal ?_))
              try simp only[Act.put,sA,sB,sC]
              go_wp2;go_meet
              case rel=>exact ⟨rfl,rfl⟩
            ·
             go_simp;refine hK _ _ (.inr HSA) ?_
             try simp only[Act.put,sA,sB,sC]
             refine jjab aZ13 (fun K hK=>?_)
             go_simp;refine(jja6 _ 3 _ H1.1 (by omega) (by omega) _ H1.2).mono ?_
             rintro e w9 ⟨rfl,rfl⟩
             refine hK _ _ (.inr HSA) ?_
             try simp only[Act.put,sA,sB,sC]
             refine jjab aZ20 (fun K hK=>?_)
             go_simp;refine(jja6 _ 10 _ H2.1 (by omega) (by omega) _ H2.2).mono ?_
             rintro e w9 ⟨rfl,rfl⟩
             refine hK _ _ (.inr HSA) ?_
             try simp only[Act.put,sA,sB,sC]
             refine jjab (i:=28) (atS (atS (atS (atS (atS (atS (atS (atS (atS (atS (atS (atS (atS (atS (atS (atS (atS (atS (atS (atS (atS (atS (atS (atS (atS (atS (atS (atS at0)))))))))))))))))))))))))))) (fun K hK=>?_)
             go_simp;refine(jja6 _ (n:Int) _ H3.1 (by omega) (by omega) _ H3.2).mono ?_
             rintro e w9 ⟨rfl,rfl⟩
             refine hK _ _ (.inr HSA) ?_
             try simp only[Act.put,sA,sB,sC]
             refine jjaa (v:=?v29_29) aZ29 ?y29_29 HSA ?r29_29
             case y29_29=>intro wx hx;obtain⟨h1,h2,h3,h4,h5⟩:=hx;go_simp;try (with_reducible rfl)
             simp only[Act.put,sA,sB,sC];refine jjab (i:=31) (atS (atS (atS (atS (atS (atS (atS (atS (atS (atS (atS (atS (atS (atS (atS (atS (atS (atS (atS (atS (atS (atS (atS (atS (atS (atS (atS (atS (atS (atS (atS at0))))))))))))))))))))))))))))))) (fun K hK=>?_)
             go_simp;refine hK _ _ (.inl rfl) (jjad (by kernel_rfl) (NoPanic.normal ?_))
             try simp only[Act.put,sA,sB,sC]
             go_wp2;go_meet
             case rel=>exact ⟨rfl,rfl⟩
          ·
            go_simp;refine hK _ _ (.inr HSA) ?_
            try simp only[Act.put,sA,sB,sC]
            refine jjab aZ6 (fun K hK=>?_)
            go_simp;refine(jja6 _ 3 _ H0.1 (by omega) (by omega) _ H0.2).mono ?_
            rintro e w9 ⟨rfl,rfl⟩
            refine hK _ _ (.inr HSA) ?_
            try simp only[Act.put,sA,sB,sC]
            refine jjab aZ13 (fun K hK=>?_)
            go_simp;refine(jja6 _ 3 _ H1.1 (by omega) (by omega) _ H1.2).mono ?_
            rintro e w9 ⟨rfl,rfl⟩
            refine hK _ _ (.inr HSA) ?_
            try simp only[Act.put,sA,sB,sC]
            refine jjab aZ20 (fun K hK=>?_)
            go_simp;refine(jja6 _ 10 _ H2.1 (by omega) (by omega) _ H2.2).mono ?_
            rintro e w9 ⟨rfl,rfl⟩
            refine hK _ _ (.inr HSA) ?_
            try simp only[Act.put,sA,sB,sC]
            refine jjab (i:=28) (atS (atS (atS (atS (atS (atS (atS (atS (atS (atS (atS (atS (atS (atS (atS (atS (atS (atS (atS (atS (atS (atS (atS (atS (atS (atS (atS (atS at0)))))))))))))))))))))))))))) (fun K hK=>?_)
            go_simp;refine(jja6 _ (n:Int) _ H3.1 (by omega) (by omega) _ H3.2).mono ?_
            rintro e w9 ⟨rfl,rfl⟩
            refine hK _ _ (.inr HSA) ?_
            try simp only[Act.put,sA,sB,sC]
            refine jjaa (v:=?v29_30) aZ29 ?y29_30 HSA ?r29_30
            case y29_30=>intro wx hx;obtain⟨h1,h2,h3,h4,h5⟩:=hx;go_simp;try (with_reducible rfl)
            simp only[Act.put,sA,sB,sC];refine jjab (i:=31) (atS (atS (atS (atS (atS (atS (atS (atS (atS (atS (atS (atS (atS (atS (atS (atS (atS (atS (atS (atS (atS (atS (atS (atS (atS (atS (atS (atS (atS (atS (atS at0))))))))))))))))))))))))))))))) (fun K hK=>?_)
            go_simp;refine hK _ _ (.inl rfl) (jjad (by kernel_rfl) (NoPanic.normal ?_))
            try simp only[Act.put,sA,sB,sC]
            go_wp2;go_meet
            case rel=>exact ⟨rfl,rfl⟩
         case rest=>
          obtain⟨rfl,rfl⟩:=hcut
          generalize hp0:(if(full&&decide (q0=0)&&decide (q1=0))=true then(1:Int) else q0)=p0 at *;have HP0:Hid ((if(full&&decide (q0=0)&&decide (q1=0))=true then(1:Int) else q0)=p0):=hp0;clear hp0 r0 r1 r2 r3 x2;have A0:Blk (wr.drew.alloc (.cells #[.int .i64 q0,.int .i64 q1,.int .i64 q2,.int .i64 q3] 56)) wr.heap.size #[.int .i64 q0,.int .i64 q1,.int .i64 q2,.int .i64 q3] 56:=Blk.made wr.drew _ _
          have hri2:(wr.drew.alloc (.cells #[.int .i64 q0,.int .i64 q1,.int .i64 q2,.int .i64 q3] 56)).ownsRow (wo.heap.size+2) 56 4 vr m.length (m.flatMap encA):=World.ownsRow.alloc (w:=wr.drew) hri.out _;have hsi2:Blk (wr.drew.alloc (.cells #[.int .i64 q0,.int .i64 q1,.int .i64 q2,.int .i64 q3] 56)) wo.heap.size #[.int .i64 F,vr] 45:=Blk.alloc (w:=wr.drew) hsi.out _
          have hxi2:Blk (wr.drew.alloc (.cells #[.int .i64 q0,.int .i64 q1,.int .i64 q2,.int .i64 q3] 56)) (wo.heap.size+1) #[.int .i64 xf,.bool xe,.slice (some ⟨b2,off2,none⟩) L cap2] 53:=Blk.alloc (w:=wr.drew) hxi.out _;have hbi2:Below wo.heap.size wo (wr.drew.alloc (.cells #[.int .i64 q0,.int .i64 q1,.int .i64 q2,.int .i64 q3] 56)):=hbi.out.drew.alloc (by show _≤wr.heap.size;omega) _
          have hsz2:wo.heap.size+2≤(wr.drew.alloc (.cells #[.int .i64 q0,.int .i64 q1,.int .i64 q2,.int .i64 q3] 56)).heap.size:=by rw[World.size_alloc];show _≤wr.heap.size+1;omega
          have hne2:vr.ownBlock≠some wr.heap.size:=fun e=>by have:=(hri.out.lt _ e).2;omega
          have hab:wo.heap.size+2≤wr.heap.size:=hsz;generalize wr.heap.size=ab at A0 hne2 hab ⊢;generalize wr.drew.alloc (.cells #[.int .i64 q0,.int .i64 q1,.int .i64 q2,.int .i64 q3] 56)=wd at A0 hri2 hsi2 hxi2 hbi2 hsz2 ⊢;clear hri hsi hxi hbi hsz;have HRI:Hid (wd.ownsRow (wo.heap.size+2) 56 4 vr m.length (m.flatMap encA)):=hri2;have HSI:Hid (Blk wd wo.heap.size #[.int .i64 F,vr] 45):=hsi2
          have HXI:Hid (Blk wd (wo.heap.size+1) #[.int .i64 xf,.bool xe,.slice (some ⟨b2,off2,none⟩) L cap2] 53):=hxi2;have HBI:Hid (Below wo.heap.size wo wd):=hbi2;have HA0:Hid (Blk wd ab #[.int .i64 q0,.int .i64 q1,.int .i64 q2,.int .i64 q3] 56):=A0;have n0:=A0.cell 0 (v:= .int .i64 q0) rfl;have n1:=A0.cell 1 (v:= .int .i64 q1) rfl;have n2:=A0.fz 0;clear hri2 hsi2 hxi2 hbi2 A0
          go_upto_region 17 with fail
          generalize htt:(full&&decide (q0=0)&&decide (q1=0))=tt at HP0;go_cut [105] (fun t wx=>t= .bool tt∧wx=wd)
          case first=>
            cases full
            ·go_wp2
             go_meet
             case rel=>exact ⟨by rw[← htt];rfl,rfl⟩
            ·by_cases k0:q0=0
             ·subst k0
              by_cases k1:q1=0
              ·subst k1
               go_wp2;go_meet
               case rel=>exact ⟨by rw[← htt];rfl,rfl⟩
              ·have k1':(q1==0)=false:=by simpa using k1
               have htf:tt=false:=by rw[← htt];simp[k1]
               clear htt;go_wp2;go_meet
               case rel=>exact ⟨by rw[htf],rfl⟩
             ·have k0':(q0==0)=false:=by simpa using k0
              have htf:tt=false:=by rw[← htt];simp[k0]
              clear htt;go_wp2;go_meet
              case rel=>exact ⟨by rw[htf],rfl⟩
          case rest=>
           obtain⟨rfl,rfl⟩:=hcut
           clear htt;go_upto_if 105 with fail
           go_cut [] (fun wx=>Hid (Blk wx ab #[.int .i64 p0,.int .i64 q1,.int .i64 q2,.int .i64 q3] 56)∧Hid (wx.ownsRow (wo.heap.size+2) 56 4 vr m.length (m.flatMap encA))∧Hid (Blk wx wo.heap.size #[.int .i64 F,vr] 45)∧Hid (Blk wx (wo.heap.size+1) #[.int .i64 xf,.bool xe,.slice (some ⟨b2,off2,none⟩) L cap2] 53)∧Hid (Below wo.heap.size wo wx)∧wo.heap.size+2≤wx.heap.size)
           case first=>
            cases tt
            ·have hp:q0=p0:=HP0.out
             subst hp;go_wp2;go_meet
             case rel=>exact ⟨HA0,HRI,HSI,HXI,HBI,hsz2⟩
            ·have hp:1=p0:=HP0.out
             subst hp;go_wp2;go_meet
             case rel=>exact ⟨HA0.out.set 0 _,ownsRow_setCell_other HRI.out hne2 _,HSI.out.setO _ _ (by show wo.heap.size≠ab;omega),HXI.out.setO _ _ (by show wo.heap.size+1≠ab;omega),HBI.out.setCell (by show _≤ab;omega) _,by simp[World.setCell];exact hsz2⟩
           case rest=>
            obtain⟨HAB,HO,HSB,HXB,HBW,HZ2'⟩:=hcut
            have HZ2:Hid (wo.heap.size+2≤wc.heap.size):=HZ2';clear HRI HSI HXI HBI HA0 n0 n1 n2;have u1:=HSB.out.cell 1 (v:=vr) rfl;have u2:=HAB.out.cell 0 (v:= .int .i64 p0) rfl;have u3:=HAB.out.cell 1 (v:= .int .i64 q1) rfl;have u4:=HAB.out.cell 2 (v:= .int .i64 q2) rfl;have u5:=HAB.out.cell 3 (v:= .int .i64 q3) rfl;go_wp2_with (first
             | (at_builtin;refine jjav jjah (by decide) jjch rfl _ _ 43 rfl (wo.heap.size+2) 56 i0 _ 32 Tryz.underlying43 hi0 hz0 hz1 hz2 rfl _ m.length (m.flatMap encA) rfl (HO.out.alloc _) _ [(p0,q1,q2,q3)] rfl (one_arc _ (p0,q1,q2,q3)) (by have:=hml.out;simp;unfold maxLen;omega) (by have:=hml.out;simp;omega) (by have:=HZ2.out;simp;omega) ?_;intro v4 w4 ho4 hg4;obtain⟨HO4,HB4,HZ4⟩:=snoc_facts HO.out HZ2.out ho4 hg4;obtain⟨a4,c4,hv4⟩:=jjbx HO4.out;(replace hv4:v4=Value.slice a4 (m.length+1) c4:=hv4.trans (by simp));subst hv4;have S4:Hid (Blk w4 wo.heap.size #[.int .i64 F,vr] 45):=HSB.out.below HB4.out (by omega);have X4:Hid (Blk w4 (wo.heap.size+1) #[.int .i64 xf,.bool xe,.slice (some ⟨b2,off2,none⟩) L cap2] 53):=HXB.out.below HB4.out (by omega);have y1:=S4.out.cell 1 (v:=vr) rfl;have y2:=S4.out.fz 1;have HBW4:Hid (Below wo.heap.size wo w4):=HBW.out.trans (HB4.out.mono (by omega));clear ho4 hg4))
            go_roundw
            case rel=>exact ⟨j+1,_,by omega,by omega,by go_num,by rw[HT.out,HP.out];exact ownsRow_setCell_below (a:=⟨wo.heap.size,1,none⟩) HO4.out (show wo.heap.size<wo.heap.size+2 by omega) _,S4.out.set 1 _,X4.out.setO _ _ (by show wo.heap.size+1≠wo.heap.size;omega),HBW4.out.setCell (Nat.le_refl _) _,by simp[World.setCell];exact HZ4.out⟩
            case measure=>simp [intOf];omega
        ·have e4:¬ (j:Int)<4:=by omega
         have e5:(j:Int)<(L:Int):=by omega
         have HFN:Hid (SL.take (k+1)=SL.take k++[(F,(xa.take j).map (arM n full))]):=by
          show _=_;rw[HE.out];congr 2
          show(_,_)=_;rw[HF.out];congr 2
          rw[show j=4 by omega]
         have hvo:OwnSts wr (w.heap.size+3) vo (SL.take k):=hown.out.kept (jjc5 hbi.out);obtain⟨v3,w3,r3,ho3,B3⟩:=jjey (W:=wr.alloc (.cells #[.int .i64 F,vr] 45)) (F,(xa.take j).map (arM n full)) (SL.take k) vr vo (w.heap.size+3) (w1:=wr) rfl rfl rfl rfl hvo (jjdv hri.out (by omega)) (by rw[List.length_take];omega) (by omega)
         obtain⟨a3,cp3,rfl⟩:=ho3.sts.sl
         have HR3:Hid _:=r3;have BB:Below wo.heap.size wo wr:=hbi.out;have HO3:Hid (OwnSts w3 (w.heap.size+3) (.slice a3 (SL.take k++[(F,(xa.take j).map (arM n full))]).length cp3) (SL.take (k+1))):=by rw[HFN.out];exact ho3
         have D0:Hid (Blk w3 w.heap.size #[.int .i64 z,.slice (some ⟨b,off,none⟩) N cap] 35):=(b0.out.below BB (by omega)).below B3 (by omega);have D1:Hid (Blk w3 (w.heap.size+1) #[.int .i64 0,.slice none 0 0] 24):=(b1.out.below BB (by omega)).below B3 (by omega);have D2r:Blk wr (w.heap.size+2) #[.int .i64 st,vo] 24:=b2.out.below BB (by omega)
         have D2:Hid (Blk w3 (w.heap.size+2) #[.int .i64 st,vo] 24):=D2r.below B3 (by omega);have t1:=D2r.cell 1 (v:=vo) rfl;have t2:=hsi.out.cell 0 (v:= .int .i64 F) rfl;have t3:=hsi.out.cell 1 (v:=vr) rfl;have t4:=D2.out.cell 1 (v:=vo) rfl;have t5:=D2.out.fz 1;have t6:=hxi.out.cell 2 (v:= .slice a2 L cap2) rfl;have hs3:w.heap.size+3≤w3.heap.size:=by have h1:=BB.size;have h2:=B3.size;omega
         have HBB:Hid (Below w.heap.size w w3):=(hb.out.trans (BB.mono (by omega))).trans (B3.mono (by omega));clear ho3 B3 r3 hvo D2r BB hri hsi hxi hbi;generalize (SL.take k++[(F,(xa.take j).map (arM n full))]).length=q at *;go_wp2_with (first
          | (at_builtin;refine jjb1 rfl _ _ 22 rfl rfl rfl HR3.out ?_))
         go_roundw
         case rel=>exact ⟨k+1,_,by omega,by go_num,HO3.out.setCell (by show w.heap.size+2<_;omega) _,D0.out.setO _ _ (by show w.heap.size≠w.heap.size+2;omega),D1.out.setO _ _ (by show w.heap.size+1≠w.heap.size+2;omega),D2.out.set 1 _,by simp[World.setCell];exact hs3,HBB.out.setCell (by show _≤w.heap.size+2;omega) _⟩
         case measure=>simp [intOf];omega
       ·have e4:¬ (j:Int)<(L:Int):=by omega
        have HFN:Hid (SL.take (k+1)=SL.take k++[(F,(xa.take j).map (arM n full))]):=by
         show _=_;rw[HE.out];congr 2
         show(_,_)=_;rw[HF.out];congr 2
         rw[show j=xa.length by rw[HL2.out];omega,List.take_length,List.take_of_length_le (by rw[HL2.out];omega)]
        have hvo:OwnSts wr (w.heap.size+3) vo (SL.take k):=hown.out.kept (jjc5 hbi.out);obtain⟨v3,w3,r3,ho3,B3⟩:=jjey (W:=wr.alloc (.cells #[.int .i64 F,vr] 45)) (F,(xa.take j).map (arM n full)) (SL.take k) vr vo (w.heap.size+3) (w1:=wr) rfl rfl rfl rfl hvo (jjdv hri.out (by omega)) (by rw[List.length_take];omega) (by omega)
        obtain⟨a3,cp3,rfl⟩:=ho3.sts.sl
        have HR3:Hid _:=r3;have BB:Below wo.heap.size wo wr:=hbi.out;have HO3:Hid (OwnSts w3 (w.heap.size+3) (.slice a3 (SL.take k++[(F,(xa.take j).map (arM n full))]).length cp3) (SL.take (k+1))):=by rw[HFN.out];exact ho3
        have D0:Hid (Blk w3 w.heap.size #[.int .i64 z,.slice (some ⟨b,off,none⟩) N cap] 35):=(b0.out.below BB (by omega)).below B3 (by omega);have D1:Hid (Blk w3 (w.heap.size+1) #[.int .i64 0,.slice none 0 0] 24):=(b1.out.below BB (by omega)).below B3 (by omega);have D2r:Blk wr (w.heap.size+2) #[.int .i64 st,vo] 24:=b2.out.below BB (by omega)
        have D2:Hid (Blk w3 (w.heap.size+2) #[.int .i64 st,vo] 24):=D2r.below B3 (by omega);have t1:=D2r.cell 1 (v:=vo) rfl;have t2:=hsi.out.cell 0 (v:= .int .i64 F) rfl;have t3:=hsi.out.cell 1 (v:=vr) rfl;have t4:=D2.out.cell 1 (v:=vo) rfl;have t5:=D2.out.fz 1;have t6:=hxi.out.cell 2 (v:= .slice a2 L cap2) rfl;have hs3:w.heap.size+3≤w3.heap.size:=by have h1:=BB.size;have h2:=B3.size;omega
        have HBB:Hid (Below w.heap.size w w3):=(hb.out.trans (BB.mono (by omega))).trans (B3.mono (by omega));clear ho3 B3 r3 hvo D2r BB hri hsi hxi hbi;generalize (SL.take k++[(F,(xa.take j).map (arM n full))]).length=q at *;go_wp2_with (first
         | (at_builtin;refine jjb1 rfl _ _ 22 rfl rfl rfl HR3.out ?_))
        go_roundw
        case rel=>exact ⟨k+1,_,by omega,by go_num,HO3.out.setCell (by show w.heap.size+2<_;omega) _,D0.out.setO _ _ (by show w.heap.size≠w.heap.size+2;omega),D1.out.setO _ _ (by show w.heap.size+1≠w.heap.size+2;omega),D2.out.set 1 _,by simp[World.setCell];exact hs3,HBB.out.setCell (by show _≤w.heap.size+2;omega) _⟩
        case measure=>simp [intOf];omega
   ·have hke:k=n:=by omega
    have HX:Hid (OwnSts wr (w.heap.size+3) vo SL):=by have h:=hown.out;rw[hke,← HSL.out,List.take_length]at h;exact h
    have hnl:¬ (k:Int)<(n:Int):=by omega
    obtain⟨av,cv,rfl⟩:=HX.out.sts.sl
    have e0:=b1.out.cell 0 (v:= .int .i64 0) rfl;have e1:=b1.out.cell 1 (v:= .slice none 0 0) rfl;have e2:=b1.out.fz 0;have e3:=b1.out.fz 1;have d0:=b2.out.cell 0 (v:= .int .i64 st) rfl;have HB:Hid (Below w.heap.size w wr):=hb;clear hke hown b0 b1 b2 hb c1;generalize hq:SL.length=q at *;go_wp2
    exact bodyPost_ret (v:= .agg #[.int .i64 st,.slice av q cv]) (by simp[results,Tryz.results13,go_sem, *]) rfl ⟨_,by rw[HMD.out,HST.out],by rw[HMD.out];exact((HX.out.setCell (by show w.heap.size+1<_;omega) _).setCell (by show w.heap.size+1<_;omega) _).mono (by omega),by (have h:=HB.out);go_grown⟩
theorem made_any (v:Value)(r:Rw)(states:Nat)(full:Bool)(w:World)(h:RawV w v r)(hok:okR r)(hwf:wfR r)(hs0:0<states)(hs8:states≤8):
  Calls Tryz.prog 13 #[v,.int .i64 (states:Int),.bool full] w fun e w'=>∃ v',e= .returned v'∧Mach w' v' (madeM r states full)∧Below w.heap.size w w':=
 (made_own v r states full w h hok hwf hs0 hs8).mono fun _ _ ⟨vs,he,ho,hb⟩=>⟨_,he,⟨vs,rfl,ho.sts⟩,hb⟩
end Go.Proofs.YtppkiejhhmahcaaGreatDoor.Wt
