/- Facts, joined. -/
import Derived.Test.YtppkiejhhmahcaaGreatDoorSag
import Derived.Laws.NewFold
set_option linter.unusedSimpArgs false
set_option linter.unusedVariables false
set_option maxHeartbeats 6400000
set_option maxRecDepth 100000
namespace Go.Proofs.YtppkiejhhmahcaaGreatDoor.Wt
open ChangeShapes WideShapes ChangeAt RowKit Pl
theorem blk_ne {w:World}{a b:Nat}{cs cs':Array Value}{t t':TypeId}(h1:Blk w a cs t)(h2:Blk w b cs' t')(ht:t≠t'):a≠b:=fun e=>by
 subst e;unfold Blk at h1 h2;rw[h1]at h2;simp at h2;exact ht h2.2
theorem places_in {l:List St}{x y:List Int}{z:Nat}{ds:List (Pt × Nat)}{hs hs':List Ar}{b:Nat}{p:Pt}{c:Nat}(hD:Dij l x y z ds hs (fun _ _=>False) b)(hp:(wyV p c::hs').Perm hs)(hto:ToL l)(hz:z<l.length)(hl:l.length≤60)(hx:x.length≤12)(hy:y.length≤12)(hd:ds.length≤10140):
  InP l x y p∧SmQ p∧c≤20000000000000:=by
 obtain⟨p',c',e,h1,_,h2⟩:=hD.heap (wyV p c) (hp.mem_iff.1 List.mem_cons_self)
 obtain⟨rfl,rfl⟩:=wyV_one e
 have h3:=h1.inside hto hz;refine⟨h3,⟨by have:=h3.1;omega,by have:=h3.2.1;omega,by have:=h3.2.2;omega⟩,?_⟩
 have:ds.length*1000000000≤10140*1000000000:=Nat.mul_le_mul_right _ hd;omega
theorem places_any (z:Nat)(vs vx vy:Value)(l:List St)(x y:List Int)(w:World)(h:Mach w (.agg #[.int .i64 (z:Int),vs]) ((z:Int),l))(hr:faultM ((z:Int),l)=0)(nx:Nums w vx x)(ny:Nums w vy y)(hx:x.length≤12)(hy:y.length≤12):
  Calls Tryz.prog 165 #[.agg #[.int .i64 (z:Int),vs],vx,vy] w fun e w'=>∃ (mb:Nat) (ds:List (Pt × Nat)) (b:Nat),e= .returned (.map (some mb))∧DoneM w' mb ds∧Dij l x y z ds [] (fun _ _=>False) b∧Below w.heap.size w w'∧w.heap.size≤mb:=by
 have HM:Hid (Mach w (.agg #[.int .i64 (z:Int),vs]) ((z:Int),l)):=h;obtain⟨vs',hvs,hS⟩:=h
 simp only[Value.agg.injEq,Array.mk.injEq,List.cons.injEq,and_true,true_and]at hvs;subst hvs;obtain⟨a,cap,rfl,hc⟩:=hS.get
 have HC:Hid (∀ j,j<l.length→∃ b off va,a=some ⟨b,off,none⟩∧b<w.heap.size∧w.cell? ⟨b,off+j*2,none⟩=some (.int .i64 (el l j).1)∧w.cell? ⟨b,off+j*2+1,none⟩=some va∧Arcs w va (el l j).2):=hc;have HTO:Hid (ToL l):=right_toL hr;have HAR:Hid (∀ q,(el l q).2.length≤400):=right_arcs hr;have hzl:z<l.length:=by
  have h1:=(jjax hr).2;simp only[rangeB,Bool.and_eq_true,inB,decide_eq_true_eq]at h1;omega
 have HZL:Hid (z<l.length):=hzl;have H60:Hid (l.length≤60):=(jjae hr).1;have HX:Hid (Nums w vx x∧x.length≤12):=⟨nx,hx⟩
 have HY:Hid (Nums w vy y∧y.length≤12):=⟨ny,hy⟩
 have hzn:¬ (z:Int)= -1:=by omega
 clear hS hc hr nx ny hx hy;generalize hn:l.length=n at *;have HN:Hid (l.length=n):=hn;clear hn;have HZ2:Hid (z<l.length∧l.length≤60):=by show _∧_;rw[HN.out];exact⟨HZL.out,H60.out⟩
 have T0:Hid (PlcAt w (((w.alloc (.cells #[.int .i64 (z:Int),.slice a n cap] 24)).alloc (.map #[] 0)).alloc (.cells #[.slice none 0 0] 229)) (w.heap.size+1) (w.heap.size+1+1) #[.int .i64 (z:Int),.slice a n cap] (.slice none 0 0) [] []):=by
  have k1:=DoneM.made (w.alloc (.cells #[.int .i64 (z:Int),.slice a n cap] 24));have k2:=Blk.made ((w.alloc (.cells #[.int .i64 (z:Int),.slice a n cap] 24)).alloc (.map #[] 0)) #[.slice none 0 0] 229;simp only[World.size_alloc]at k1 k2
  exact⟨((Blk.made w _ _).alloc _).alloc _,k1.alloc _,k2,World.ownsRow_nil _ _ _ _,(((Below.refl _ _).alloc (Nat.le_refl _) _).alloc (by simp) _).alloc (by simp;omega) _,by omega,by omega,by simp⟩
 have HD0:Hid (Dij l x y z [] [wyV (z,0,0) 0] (fun _ _=>False) 0):=Dij.start _
 have HP0:Hid (∀ W,W=(((w.alloc (.cells #[.int .i64 (z:Int),.slice a n cap] 24)).alloc (.map #[] 0)).alloc (.cells #[.slice none 0 0] 229))→Calls Tryz.prog 173 #[.iface 230 (.pointer (some ⟨w.heap.size+1+1,0,none⟩)),.iface 232 (.agg #[.int .i64 (z:Int),.int .i64 0,.int .i64 0,.int .i64 0])] W fun e w'=>e= .returned (.tuple #[])∧∃ v' hs',HeapW hs' hs'.length∧hs'=[wyV (z,0,0) 0]∧PlcAt w w' (w.heap.size+1) (w.heap.size+1+1) #[.int .i64 (z:Int),.slice a n cap] v' hs' []):=by
  rintro W rfl
  refine(whPush_ex (w.heap.size+1+1) (w.heap.size+1+1+1) (.slice none 0 0) [] (z:Int) 0 0 0 _ T0.out.var T0.out.heap T0.out.s2 (by simp) HeapW.nil).mono ?_
  rintro e w' ⟨rfl,v',hs',h1,h2,h3,h4,h5,h6⟩
  refine⟨rfl,v',hs',h1,?_,T0.out.turn h6 h3 h4⟩
  have h7:=List.perm_singleton.1 h2;rw[h7];simp[wyV]
 have hta:=assert_way;have hmm:∀ W:World,(Instr.makeMap 193 none).run Tryz.prog W= .ok (.map (some W.heap.size)) (W.alloc (.map #[] 0)):=fun W=>rfl
 go_enter Tryz.func165,Tryz.ntmps165;go_wp2_with (first
  | (go_at_call 173;(with_reducible refine(HP0.out _ rfl).mono ?_);rintro e w1 ⟨rfl,v1,hs1,hh1,hl1,ht1⟩;have HH1:Hid (HeapW hs1 hs1.length∧hs1=[wyV (z,0,0) 0]):=⟨hh1,hl1⟩;have HT1:Hid (PlcAt w w1 (w.heap.size+1) (w.heap.size+1+1) #[.int .i64 (z:Int),.slice a n cap] v1 hs1 []):=ht1;clear hh1 hl1 ht1))
 clear T0 HP0 hmm;generalize hB:w.heap.size+1+1=B at *;generalize hM:w.heap.size+1=M at *;have HMB:Hid (w.heap.size≤M):=by show _≤_;omega
 clear hM hB;go_loopw [] (fun wr=>∃ (ds:List (Pt × Nat)) (hs:List Ar) (v:Value) (b:Nat),Hid (Dij l x y z ds hs (fun _ _=>False) b∧HeapW hs hs.length∧hs.length≤1+400*ds.length)∧Hid (PlcAt w wr M B #[.int .i64 (z:Int),.slice a n cap] v hs ds)) (fun wr=>msrW wr M B)
 case atStart=>
  have h9:=HH1.out.2;subst h9;exact⟨[],_,v1,0,⟨HD0.out,HH1.out.1,by simp⟩,HT1⟩
 case round=>
  clear HH1 HT1 HD0;obtain⟨ds,hs,v,b,hI,hT⟩:=hrel
  obtain⟨w2,hw2⟩:∃ w2,w2=wr:=⟨_,rfl⟩
  subst hw2;have hfew:ds.length≤10140:=hI.out.1.few HTO.out HZ2.out.1 HZ2.out.2 HX.out.2 HY.out.2;have hlen:hs.length≤5000000:=by have:=hI.out.2.2;omega
  have HMS:Hid (msrW w2 M B=(20000-ds.length)*10000000+hs.length):=hT.out.msr;obtain⟨av,cv,hv⟩:=own_slW hT.out.heap
  subst hv;have cB:=hT.out.var.cell 0 (v:= .slice av hs.length cv) rfl;by_cases hz:hs.length=0
  ·have hz':((hs.length:Nat):Int)=0:=by omega
   have HDE:Hid (Dij l x y z ds [] (fun _ _=>False) b):=by have h9:=hI.out.1;rw[List.eq_nil_of_length_eq_zero hz]at h9;exact h9
   go_wp2_with (first
    | (go_at_call 184;(with_reducible refine(wLen_any _ _ _ _).mono ?_);rintro e w3 ⟨rfl,rfl⟩))
   go_ret;exact⟨M,ds,b,rfl,hT.out.map,HDE.out,hT.out.below,HMB.out⟩
  ·have hz':(0:Int)<((hs.length:Nat):Int):=by omega
   have HPO:=hidP (whPop_ex B (B+1) _ hs w2 hT.out.var hT.out.heap (by omega) (by omega) hI.out.2.1 hI.out.1);go_wp2_with (first
    | (go_at_call 184;(with_reducible refine(wLen_any _ _ _ _).mono ?_);rintro e w3 ⟨rfl,rfl⟩)
    | (go_at_call 175;((with_reducible refine HPO.out.mono ?_);rintro e w3 ⟨p,c,rfl,v3,hs3,hh3,hp3,hle3,hb3,ho3,ht3⟩;have HT3:Hid (PlcAt w w3 M B #[.int .i64 (z:Int),.slice a n cap] v3 hs3 ds):=hT.out.turn ht3 hb3 ho3;have HQ3:Hid (HeapW hs3 hs3.length∧(wyV p c::hs3).Perm hs∧(∀ a ∈ hs3,(c:Int)≤a.2.2.2)):=⟨hh3,hp3,hle3⟩;clear hh3 hp3 hle3 hb3 ho3 ht3;have HIN:Hid (InP l x y p∧SmQ p∧c≤20000000000000):=places_in hI.out.1 HQ3.out.2.1 HTO.out HZ2.out.1 HZ2.out.2 HX.out.2 HY.out.2 hfew;have hlk:=(HT3.out.alloc (.cells #[.int .i64 (p.1:Int),.int .i64 (p.2.1:Int),.int .i64 (p.2.2:Int),.int .i64 (c:Int)] 232)).map.look HIN.out.2.1;rcases hlk with⟨d,hd,hlk⟩ | ⟨hno,d,hlk⟩;case' inr=>(have HNO:=hidP hno;obtain⟨w4,hup,hd4,hg4⟩:=(HT3.out.alloc (.cells #[.int .i64 (p.1:Int),.int .i64 (p.2.1:Int),.int .i64 (p.2.2:Int),.int .i64 (c:Int)] 232)).map.put HIN.out.2.1 hno (c:=c) (by have:=HIN.out.2.2;omega) (by omega);have HT4:Hid (PlcAt w w4 M B #[.int .i64 (z:Int),.slice a n cap] v3 hs3 (ds++[(p,c)])):=(HT3.out.alloc _).put hg4 hd4;have BW4:Hid (Blk w4 w3.heap.size #[.int .i64 (p.1:Int),.int .i64 (p.2.1:Int),.int .i64 (p.2.2:Int),.int .i64 (c:Int)] 232):=(Blk.made w3 _ _).grown hg4 (by have:=HT3.out.map.lt;simp;omega);have NR4:Hid (NotRow w3.heap.size v3):=NotRow.new HT3.out.heap;have hpn:p.1<n:=(by have:=HIN.out.1.1;rw[HN.out]at this;exact this);obtain⟨bb,off,va,ha,hbl,g0,g1,gA⟩:=HC.out p.1 hpn;subst ha;obtain⟨a2,cap2,hva,hga⟩:=gA.get;subst hva;have g1:=(HT4.out.below.cell (p:=⟨bb,off+p.1*2+1,none⟩) hbl).trans g1;have bx1:=HT4.out.box.cell 1 (v:= .slice (some ⟨bb,off,none⟩) n cap) rfl;have cw0:=BW4.out.cell 0 (v:= .int .i64 (p.1:Int)) rfl;have k1:(0:Int)≤(p.1:Int):=Int.natCast_nonneg _;have k2:(p.1:Int)<(n:Int):=(by omega);have HGA:=hidP hga;have hl4:(el l p.1).2.length≤400:=HAR.out p.1;have HD4:Hid (Dij l x y z (ds++[(p,c)]) hs3 (fun q i=>q=p∧0≤i) c):=hI.out.1.new HQ3.out.2.1 HQ3.out.2.2 hno;have HL3:Hid (hs3.length≤1+400*ds.length):=(by have h8:=hI.out.2.2;have h9:=HQ3.out.2.1.length_eq;rw[List.length_cons]at h9;show _≤_;omega);clear hga gA hd4 hg4 hno g0;generalize hL:(el l p.1).2.length=L at *;have HL:=hidP hL;clear hL))))
   ·generalize hG:w3.heap.size=G at *
    have HGL:Hid (G<w4.heap.size):=BW4.out.lt;clear hlk hup cw0 bx1 g1 k1 k2
    go_loopw [55] (fun i55 wi=>∃ (k:Nat) (v:Value) (hs':List Ar),k≤L∧i55= .int .i64 (k:Int)∧Hid (Dij l x y z (ds++[(p,c)]) hs' (fun q i=>q=p∧k≤i) c∧HeapW hs' hs'.length∧hs'.length≤1+400*ds.length+k)∧Hid (PlcAt w wi M B #[.int .i64 (z:Int),.slice (some ⟨bb,off,none⟩) n cap] v hs' (ds++[(p,c)]))∧Hid (Blk wi G #[.int .i64 (p.1:Int),.int .i64 (p.2.1:Int),.int .i64 (p.2.2:Int),.int .i64 (c:Int)] 232)∧Hid (NotRow G v)) (fun i55 _=>L-(intOf i55).toNat)
    case atStart=>exact ⟨0,v3,hs3,Nat.zero_le _,rfl,⟨HD4.out,HQ3.out.1,HL3.out⟩,HT4,BW4,NR4⟩
    case round=>
     clear HD4 HT4 BW4 NR4 HL3 HQ3;obtain⟨k,v5,hs5,hk,rfl,hI5,hT5,hB5,hN5⟩:=hrel
     obtain⟨w5,hw5⟩:∃ w5,w5=wr:=⟨_,rfl⟩
     subst hw5;have hBG:G≠B:=blk_ne hB5.out hT5.out.var (by decide);by_cases hlt:k<L
     ·have j0:(0:Int)≤(k:Int):=Int.natCast_nonneg _
      have j1:(k:Int)<(L:Int):=by omega
      obtain⟨b2,off2,ha2,hb2l,q0,q1,q2,q3⟩:=HGA.out k hlt
      subst ha2;have q0:=(hT5.out.below.cell (p:=⟨b2,off2+k*4,none⟩) hb2l).trans q0;have q1:=(hT5.out.below.cell (p:=⟨b2,off2+k*4+1,none⟩) hb2l).trans q1;have q2:=(hT5.out.below.cell (p:=⟨b2,off2+k*4+2,none⟩) hb2l).trans q2;have q3:=(hT5.out.below.cell (p:=⟨b2,off2+k*4+3,none⟩) hb2l).trans q3;have cw0:=hB5.out.cell 0 (v:= .int .i64 (p.1:Int)) rfl
      have cw1:=hB5.out.cell 1 (v:= .int .i64 (p.2.1:Int)) rfl;have cw2:=hB5.out.cell 2 (v:= .int .i64 (p.2.2:Int)) rfl;have sW:G<w5.heap.size:=hB5.out.lt;obtain⟨ar,har⟩:∃ ar:Ar,el (el l p.1).2 k=ar:=⟨_,rfl⟩
      have HGT:=along_to HTO.out HIN.out.1 (by rw[HL.out];exact hlt) har;rw[har]at q0 q1 q2 q3;clear har;obtain⟨a0,a1,a4,a3⟩:=ar
      simp only at q0 q1 q2 q3 HGT;have hi12:p.2.1≤12:=Nat.le_trans HIN.out.1.2.1 HX.out.2;have hj12:p.2.2≤12:=Nat.le_trans HIN.out.1.2.2 HY.out.2;have HC5:Hid (∀ W,Below w5.heap.size w5 W→Below w.heap.size w W):=fun W hW=>hT5.out.below.trans (hW.mono hT5.out.below.size)
      rcases HGT with⟨p',wt,hto,hwt,hwl,e1,e2,e3,e4⟩ | ⟨hno2,hf⟩
      ·subst e1
       subst e2;have HAL:Hid (∀ W,Below w5.heap.size w5 W→Calls Tryz.prog 185 #[.agg #[.int .i64 (p.1:Int),.int .i64 (p.2.1:Int),.int .i64 (p.2.2:Int)],.agg #[.int .i64 a0,.int .i64 a1,.int .i64 (wt:Int),.int .i64 (p'.1:Int)],vx,vy] W fun e w'=>e= .returned (.tuple #[.agg #[.int .i64 (p'.1:Int),.int .i64 (p'.2.1:Int),.int .i64 (p'.2.2:Int)],.bool true])∧Below W.heap.size W w'):=fun W hW=>by
        have h9:=along_any vx vy x y p.1 p.2.1 p.2.2 (a0,a1,(wt:Int),(p'.1:Int)) W (HX.out.1.later (HC5.out W hW) (Nat.le_refl _)) (HY.out.1.later (HC5.out W hW) (Nat.le_refl _)) HX.out.2 HY.out.2 hi12 hj12;simp only[e3,e4,Bool.and_self]at h9;exact h9
       have hsum:IntKind.i64.wrap ((c:Int)+(wt:Int))=(c:Int)+(wt:Int):=wrapI (by omega) (by have:=HIN.out.2.2;omega);have HTO2:=hidP hto;have HWT:=hidP hwt;have hl5:hs5.length≤9000000:=by have:=hI5.out.2.2;omega
       clear e3 e4 hto hwt;go_wp2_with (first
        | (go_at_call 185;(with_reducible refine(HAL.out _ (by go_grown)).mono ?_);rintro e w6 ⟨rfl,hb⟩;obtain⟨s6,bA,hb6⟩:=boxed hb (by simp);have T6:=hidP (hT5.out.later hb6);have BG6:=hidP (hB5.out.below hb6 hB5.out.lt);have sG:G<w6.heap.size:=BG6.out.lt;have sA:w5.heap.size<w6.heap.size:=(by omega);have cw3:=BG6.out.cell 3 (v:= .int .i64 (c:Int)) rfl;have ca2:=bA.cell 2 (v:= .int .i64 (wt:Int)) rfl;have T7:=hidP (T6.out.alloc (.cells #[.int .i64 (p'.1:Int),.int .i64 (p'.2.1:Int),.int .i64 (p'.2.2:Int)] 196));have HPU:=hidP (whPush_ex B (B+1) v5 hs5 (p'.1:Int) (p'.2.1:Int) (p'.2.2:Int) ((c:Int)+(wt:Int)) _ T7.out.var T7.out.heap T7.out.s2 hl5 hI5.out.2.1);clear hb bA hb6 s6)
        | (go_at_call 173;(with_reducible refine HPU.out.mono ?_);rintro e w8 ⟨rfl,v8,hs8,hh8,hp8,hb8,ho8,hn8,ht8⟩;have T8:=hidP (T7.out.turn ht8 hb8 ho8);have B8:=hidP (ht8.blk (BG6.out.alloc (.cells #[.int .i64 (p'.1:Int),.int .i64 (p'.2.1:Int),.int .i64 (p'.2.2:Int)] 196)) hBG hN5.out);have N8:=hidP (hN5.out.next hn8 (by simp;omega));have HP8:=hidP hp8;have HH8:=hidP hh8;clear hh8 hp8 hb8 ho8 hn8 ht8))
       go_roundw
       case rel=>
        refine⟨k+1,v8,hs8,by omega,by go_num,⟨hI5.out.1.push HTO.out HZ2.out.1 (by simp) HTO2.out ?_,HH8.out,?_⟩,T8,B8,N8⟩
        ·rw [HWT.out]
         have h9:=HP8.out;rw[← Int.natCast_add]at h9;exact h9
        ·rw [HP8.out.length_eq,List.length_append]
         have:=hI5.out.2.2;simp;omega
       case measure=>simp [intOf];omega
      ·have HAL:Hid (∃ r1 r2:Int,∀ W,Below w5.heap.size w5 W→Calls Tryz.prog 185 #[.agg #[.int .i64 (p.1:Int),.int .i64 (p.2.1:Int),.int .i64 (p.2.2:Int)],.agg #[.int .i64 a0,.int .i64 a1,.int .i64 a4,.int .i64 a3],vx,vy] W fun e w'=>e= .returned (.tuple #[.agg #[.int .i64 a3,.int .i64 r1,.int .i64 r2],.bool false])∧Below W.heap.size W w'):=⟨_,_,fun W hW=>by
        have h9:=along_any vx vy x y p.1 p.2.1 p.2.2 (a0,a1,a4,a3) W (HX.out.1.later (HC5.out W hW) (Nat.le_refl _)) (HY.out.1.later (HC5.out W hW) (Nat.le_refl _)) HX.out.2 HY.out.2 hi12 hj12
        simp only[hf]at h9
        exact h9⟩
       obtain⟨r1,r2,hal⟩:=HAL.out
       have HAL2:=hidP hal;have HNO2:=hidP hno2;clear hf hno2 HAL hal;go_wp2_with (first
        | (go_at_call 185;(with_reducible refine(HAL2.out _ (by go_grown)).mono ?_);rintro e w6 ⟨rfl,hb⟩;obtain⟨s6,bA,hb6⟩:=boxed hb (by simp);have T6:=hidP (hT5.out.later hb6);have BG6:=hidP (hB5.out.below hb6 hB5.out.lt);have sG:G<w6.heap.size:=BG6.out.lt;have sA:w5.heap.size<w6.heap.size:=(by omega);clear hb bA hb6 s6))
       go_roundw
       case rel=>exact ⟨k+1,v5,hs5,by omega,by go_num,⟨hI5.out.1.skip HNO2.out,hI5.out.2.1,by have:=hI5.out.2.2;omega⟩,T6.out.alloc _,BG6.out.alloc _,hN5⟩
       case measure=>simp [intOf];omega
     ·have hke:k=L:=by omega
      have hnl:¬ (k:Int)<(L:Int):=by omega
      go_wp2;have h8:=hT5.out.msr;have h7:=hI5.out.2.2;have h6:(ds++[(p,c)]).length=ds.length+1:=by simp
      refine⟨⟨ds++[(p,c)],hs5,v5,c,⟨hI5.out.1.all (by rw[HL.out];omega),hI5.out.2.1,by rw[h6];omega⟩,hT5⟩,?_⟩
      rw[h8,HMS.out,h6];exact lenW_low (by omega) (by omega) (by omega)
   ·refine ⟨⟨ds,hs3,v3,b,⟨hI.out.1.old HQ3.out.2.1 hd,HQ3.out.1,by have h8:=hI.out.2.2;have h9:=HQ3.out.2.1.length_eq;rw[List.length_cons]at h9;omega⟩,HT3.out.alloc _⟩,?_⟩
    ·have h8:=(HT3.out.alloc (.cells #[.int .i64 (p.1:Int),.int .i64 (p.2.1:Int),.int .i64 (p.2.2:Int),.int .i64 (c:Int)] 232)).msr
     have h9:=HQ3.out.2.1.length_eq;rw[List.length_cons]at h9;rw[h8,HMS.out];omega
theorem places_none (vs vx vy:Value)(w:World)(hvs:∃ a n cap,vs= .slice a n cap):
  Calls Tryz.prog 165 #[.agg #[.int .i64 (-1),vs],vx,vy] w fun e w'=>∃ (mb:Nat),e= .returned (.map (some mb))∧DoneM w' mb []∧Below w.heap.size w w'∧w.heap.size≤mb:=by
 obtain⟨a,n,cap,rfl⟩:=hvs
 have T0:Hid (PlcAt w (((w.alloc (.cells #[.int .i64 (-1),.slice a n cap] 24)).alloc (.map #[] 0)).alloc (.cells #[.slice none 0 0] 229)) (w.heap.size+1) (w.heap.size+1+1) #[.int .i64 (-1),.slice a n cap] (.slice none 0 0) [] []):=by
  have k1:=DoneM.made (w.alloc (.cells #[.int .i64 (-1),.slice a n cap] 24));have k2:=Blk.made ((w.alloc (.cells #[.int .i64 (-1),.slice a n cap] 24)).alloc (.map #[] 0)) #[.slice none 0 0] 229;simp only[World.size_alloc]at k1 k2
  exact⟨((Blk.made w _ _).alloc _).alloc _,k1.alloc _,k2,World.ownsRow_nil _ _ _ _,(((Below.refl _ _).alloc (Nat.le_refl _) _).alloc (by simp) _).alloc (by simp;omega) _,by omega,by omega,by simp⟩
 have hmm:∀ W:World,(Instr.makeMap 193 none).run Tryz.prog W= .ok (.map (some W.heap.size)) (W.alloc (.map #[] 0)):=fun W=>rfl
 go_enter Tryz.func165,Tryz.ntmps165;go_wp2;clear hmm;generalize hB:w.heap.size+1+1=B at *;generalize hM:w.heap.size+1=M at *;have HMB:Hid (w.heap.size≤M):=by show _≤_;omega
 clear hM hB;go_loopw [] (fun wr=>Hid (PlcAt w wr M B #[.int .i64 (-1),.slice a n cap] (.slice none 0 0) [] [])) (fun wr=>0)
 case atStart=>exact T0
 case round=>
  have cB:=hrel.out.var.cell 0 (v:= .slice none 0 0) rfl;clear T0;go_wp2_with (first
   | (go_at_call 184;(with_reducible refine(wLen_any _ _ _ _).mono ?_);rintro e w3 ⟨rfl,rfl⟩))
  go_ret;exact⟨M,rfl,hrel.out.map,hrel.out.below,HMB.out⟩
def BstRes (P:Nat→Prop)(w:World)(e:Ending)(w':World):Prop:=∃ (n:Int) (f:Bool),e= .returned (.tuple #[.int .i64 n,.bool f])∧BstA P n f∧Below w.heap.size w w'
theorem placesP_any (v vx vy:Value)(m:Mc)(x y:List Int)(w:World)(h:Mach w v m)(hr:faultM m=0)(nx:Nums w vx x)(ny:Nums w vy y)(hx:x.length≤12)(hy:y.length≤12):
  Calls Tryz.prog 165 #[v,vx,vy] w fun e w'=>∃ (mb:Nat) (ds:List (Pt × Nat)),e= .returned (.map (some mb))∧DoneM w' mb ds∧PlT m x y ds∧(ds.map Prod.fst).Nodup∧Below w.heap.size w w':=by
 obtain⟨z,l⟩:=m
 have h1:=(jjax hr).2;simp only[rangeB,Bool.and_eq_true,inB,decide_eq_true_eq]at h1;by_cases hz:z= -1
 ·subst hz
  obtain⟨vs,rfl,hS⟩:=h
  obtain⟨a,cap,rfl⟩:=hS.sl
  refine(places_none _ vx vy w ⟨_,_,_,rfl⟩).mono ?_
  rintro e w' ⟨mb,rfl,h2,h3,h4⟩
  exact⟨mb,[],rfl,h2,PlT.none (by simp),List.nodup_nil,h3⟩
 ·obtain ⟨z0,rfl⟩:∃ z0:Nat,z=(z0:Int):=⟨z.toNat,by omega⟩
  have hM:=h;obtain⟨vs,rfl,hS⟩:=h
  refine(places_any z0 vs vx vy l x y w hM hr nx ny hx hy).mono ?_
  rintro e w' ⟨mb,ds,b,rfl,h2,h3,h4,h5⟩
  exact⟨mb,ds,rfl,h2,PlT.dij (z:=z0) rfl (by simp;omega) (right_toL hr) h3 (jjae hr).1 hx hy,h3.nd,h4⟩
theorem cheapestP_any (v vx vy:Value)(m:Mc)(x y:List Int)(w:World)(h:Mach w v m)(hr:faultM m=0)(nx:Nums w vx x)(ny:Nums w vy y)(hx:x.length≤12)(hy:y.length≤12):
  Calls Tryz.prog 132 #[v,vx,vy] w fun e w'=>BstRes (Costs m x y) w e w':=by
 obtain⟨z,l⟩:=m
 have HM:Hid (Mach w v (z,l)):=h;obtain⟨vs,rfl,hS⟩:=h
 obtain⟨a,cap,rfl,hc⟩:=hS.get
 have HC:Hid (∀ j,j<l.length→∃ b off va,a=some ⟨b,off,none⟩∧b<w.heap.size∧w.cell? ⟨b,off+j*2,none⟩=some (.int .i64 (el l j).1)∧w.cell? ⟨b,off+j*2+1,none⟩=some va∧Arcs w va (el l j).2):=hc
 have HPC:Hid (∀ W,Below w.heap.size w W→Calls Tryz.prog 165 #[.agg #[.int .i64 z,.slice a l.length cap],vx,vy] W fun e w'=>∃ (mb:Nat) (ds:List (Pt × Nat)),e= .returned (.map (some mb))∧DoneM w' mb ds∧PlT (z,l) x y ds∧(ds.map Prod.fst).Nodup∧Below W.heap.size W w'):=fun W hW=>placesP_any _ vx vy (z,l) x y W (HM.out.later hW (Nat.le_refl _)) hr (nx.later hW (Nat.le_refl _)) (ny.later hW (Nat.le_refl _)) hx hy
 have HF:Hid (∀ j,j<l.length→finB (el l j).1=true):=fun j hj=>(jjbv hr hj).1
 have H60:Hid (l.length≤60):=(jjae hr).1;obtain⟨ax,cx,rfl,_⟩:=nx.get
 obtain⟨ay,cy,rfl,_⟩:=ny.get
 have HEND:Hid (∀ c,CstN (RW (z,l) x y) l l.length c↔Costs (z,l) x y c):=cstN_all (z,l) x y;clear hS hc hr nx ny;generalize hR:RW (z,l) x y=R at *;generalize hX:x.length=X at *;generalize hY:y.length=Y at *;have HXY:Hid (x.length=X∧y.length=Y∧RW (z,l) x y=R):=⟨hX,hY,hR⟩
 clear hX hY hR;generalize hn:l.length=n at *;have HN:Hid (l.length=n):=hn;clear hn;have hnot:∀ (x:Bool) (w:World),(Op.unary .not (.bool x)).run Tryz.prog w= .ok (.bool (!x)) w:=fun _ _=>rfl
 go_enter Tryz.func132,Tryz.ntmps132;go_wp2_with (first
  | (go_at_call 165;(with_reducible refine(HPC.out _ (by go_grown)).mono ?_);rintro e w1 ⟨mb,ds,rfl,hdm,hpt,hnd,hb⟩;have HNDP:=hidP hnd;clear hnd;obtain⟨s1,b1,hb1⟩:=boxed hb (by simp);have HB1:=hidP hb1;have K0:=hidP b1;have HDM:=hidP hdm;have HPT:Hid (∀ q,q<n→(∃ d,((q,X,Y),d) ∈ ds∧d≤20000000000000∧LeastP (R q) d)∨((∀ d,((q,X,Y),d) ∉ ds)∧∀ d,¬ R q d)):=(by have h9:=hpt;unfold PlT at h9;simp only at h9;rw[HXY.out.1,HXY.out.2.1,HXY.out.2.2,HN.out]at h9;exact h9);have bx1:=b1.cell 1 (v:= .slice a n cap) rfl;clear hdm hpt hb hb1 s1 b1))
 clear bx1 HPC;go_loopw [9,10,22] (fun s9 s10 s22 wr=>∃ (k:Nat) (ls:Int) (f:Bool),k≤n∧s22= .int .i64 (k:Int)∧s9= .int .i64 ls∧s10= .bool f∧Hid (BstA (CstN R l k) ls f)∧Hid (DoneM wr mb ds)∧Hid (Below w.heap.size w wr)) (fun _ _ s22 _=>n-(intOf s22).toNat)
 case atStart=>exact ⟨0,0,false,Nat.zero_le _,rfl,rfl,rfl,BstA.start R l,HDM,HB1⟩
 case round=>
  clear HDM HB1;obtain⟨k,ls,f,hk,rfl,rfl,rfl,hI,hD,hB⟩:=hrel
  obtain⟨w2,hw2⟩:∃ w2,w2=wr:=⟨_,rfl⟩
  subst hw2;by_cases hlt:k<n
  ·have j0:(0:Int)≤(k:Int):=Int.natCast_nonneg _
   have j1:(k:Int)<(n:Int):=by omega
   obtain⟨b2,off2,va,ha2,hb2l,g0,g1,gA⟩:=HC.out k hlt
   subst ha2;obtain⟨a3,cap3,hva⟩:=gA.sl
   have g0:=(hB.out.cell (p:=⟨b2,off2+k*2,none⟩) hb2l).trans g0;have g1:=(hB.out.cell (p:=⟨b2,off2+k*2+1,none⟩) hb2l).trans g1;have HF2:=hidP (HF.out k hlt);have HT:=HPT.out k hlt;have HSK:Hid (((∀ d,¬ R k d)∨(el l k).1=1000000001)→BstA (CstN R l (k+1)) ls f):=fun h=>hI.out.skip h
   have HTK:Hid (∀ e,LeastP (R k) e→(el l k).1≠1000000001→0≤(el l k).1→(f=false∨(e:Int)+(el l k).1<ls)→BstA (CstN R l (k+1)) ((e:Int)+(el l k).1) true):=fun e=>hI.out.take
   have HSY:Hid (∀ e,f=true→LeastP (R k) e→0≤(el l k).1→¬ (e:Int)+(el l k).1<ls→BstA (CstN R l (k+1)) ls f):=fun e hf=>by subst hf;exact hI.out.stay
   have h60:=H60.out;have hlk:=(hD.out.alloc (.cells #[.int .i64 (el l k).1,va] 45)).look (p:=(k,X,Y)) ⟨by simp;omega,by simp;omega,by simp;omega⟩;generalize (el l k).2.length=n3 at *;generalize (el l k).1=fi at *;subst hva;clear gA;rcases HT with⟨d,hd,hdb,hle⟩ | ⟨hno,hnw⟩
   ·rcases hlk with⟨d',hd',hlk⟩ | ⟨hno,_⟩
    ·have hdd:=hidP (show LeastP (R k) d∧d≤20000000000000 from⟨hle,hdb⟩)
     have hdd2:=jjff HNDP.out hd hd';subst hdd2;have HRK:=hidP hdd.out.1;clear hle hd hd';by_cases hfi:fi=1000000001
     ·subst hfi
      have HR:=hidP (HSK.out (.inr rfl));clear HSK HTK HSY;go_wp2;go_roundw
      case rel=>exact ⟨k+1,ls,f,by omega,by go_num,rfl,rfl,HR,hD.out.alloc _,hB.out.alloc hB.out.size _⟩
      case measure=>simp [intOf];omega
     ·have hfb:0≤fi∧fi≤1000000000:=by
       have h9:=HF2.out;simp[finB,inB]at h9;omega
      have hsum:IntKind.i64.wrap ((d:Int)+fi)=(d:Int)+fi:=wrapI (by omega) (by omega);cases f
      ·have HR:=hidP (HTK.out d HRK.out hfi hfb.1 (.inl rfl))
       clear HSK HTK HSY;go_wp2;go_roundw
       case rel=>exact ⟨k+1,(d:Int)+fi,true,by omega,by go_num,rfl,rfl,HR,hD.out.alloc _,hB.out.alloc hB.out.size _⟩
       case measure=>simp [intOf];omega
      ·by_cases hls:(d:Int)+fi<ls
       ·have HR:=hidP (HTK.out d HRK.out hfi hfb.1 (.inr hls))
        clear HSK HTK HSY;go_wp2;go_roundw
        case rel=>exact ⟨k+1,(d:Int)+fi,true,by omega,by go_num,rfl,rfl,HR,hD.out.alloc _,hB.out.alloc hB.out.size _⟩
        case measure=>simp [intOf];omega
       ·have HR:=hidP (HSY.out d rfl HRK.out hfb.1 hls)
        clear HSK HTK HSY;go_wp2;go_roundw
        case rel=>exact ⟨k+1,ls,true,by omega,by go_num,rfl,rfl,HR,hD.out.alloc _,hB.out.alloc hB.out.size _⟩
        case measure=>simp [intOf];omega
    ·exact absurd hd (hno d)
   ·rcases hlk with⟨d',hd',hlk⟩ | ⟨_,d',hlk⟩
    ·exact absurd hd' (hno d')
    ·have HR:=hidP (HSK.out (.inl hnw))
     clear hno hnw HSK HTK HSY;go_wp2;go_roundw
     case rel=>exact ⟨k+1,ls,f,by omega,by go_num,rfl,rfl,HR,hD.out.alloc _,hB.out.alloc hB.out.size _⟩
     case measure=>simp [intOf];omega
  ·have hke:k=n:=by omega
   have hnl:¬ (k:Int)<(n:Int):=by omega
   have HR:Hid (BstA (Costs (z,l) x y) ls f):=by have h9:=hI.out;rw[hke]at h9;exact h9.congr HEND.out
   go_wp2;exact bodyPost_ret (v:= .tuple #[.int .i64 ls,.bool f]) (by simp[results,Tryz.results132,go_sem, *]) rfl ⟨ls,f,rfl,HR.out,hB.out⟩
theorem costP_any (v vx vy:Value)(m:Mc)(x y:List Int)(w:World)(h:Mach w v m)(hr:faultM m=0)(nx:Nums w vx x)(ny:Nums w vy y)(hx:x.length≤12)(hy:y.length≤12):
  Calls Tryz.prog 80 #[v,vx,vy] w fun e w'=>∃ n ec:Int,e= .returned (.tuple #[.int .i64 n,.int .i64 ec])∧WghAns (Costs m x y) n ec∧Below w.heap.size w w':=by
 obtain⟨z,l⟩:=m
 have HM:Hid (Mach w v (z,l)):=h;have HCH:Hid (∀ W,Below w.heap.size w W→Calls Tryz.prog 132 #[v,vx,vy] W fun e w'=>BstRes (Costs (z,l) x y) W e w'):=fun W hW=>cheapestP_any v vx vy (z,l) x y W (HM.out.later hW (Nat.le_refl _)) hr (nx.later hW (Nat.le_refl _)) (ny.later hW (Nat.le_refl _)) hx hy
 obtain⟨vs,rfl,hS⟩:=h
 obtain⟨a,cap,rfl⟩:=hS.sl
 clear hS hr nx ny;generalize l.length=n at *;generalize Costs (z,l) x y=P at *;have hnot:∀ (x:Bool) (w:World),(Op.unary .not (.bool x)).run Tryz.prog w= .ok (.bool (!x)) w:=fun _ _=>rfl
 go_enter Tryz.func80,Tryz.ntmps80;go_wp2_with (first
  | (go_at_call 132;(with_reducible refine(HCH.out _ (by go_grown)).mono ?_);rintro e w1 ⟨ls,f,rfl,hans,hb⟩;obtain⟨s1,b1,hb1⟩:=boxed hb (by simp);have HB1:=hidP hb1;have HW:=hidP hans.wgh;clear hans hb hb1 b1;cases f;case' true=>(by_cases hls:(1000000000:Int)<ls)))
 ·exact bodyPost_ret (v:= .tuple #[.int .i64 0,.int .i64 4]) (by simp[results,Tryz.results80,go_sem, *]) rfl ⟨0,4,rfl,(by have h9:=HW.out;simp[hls]at h9;exact h9),HB1.out⟩
 ·exact bodyPost_ret (v:= .tuple #[.int .i64 ls,.int .i64 0]) (by simp[results,Tryz.results80,go_sem, *]) rfl ⟨ls,0,rfl,(by have h9:=HW.out;simp at h9;rw[if_neg (by omega),if_neg (by omega)]at h9;exact h9),HB1.out⟩
 ·exact bodyPost_ret (v:= .tuple #[.int .i64 1000000001,.int .i64 0]) (by simp[results,Tryz.results80,go_sem, *]) rfl ⟨1000000001,0,rfl,(by have h9:=HW.out;simp at h9;exact h9),HB1.out⟩
end Wt
namespace Pl
def wdsE :List (List Int)→Int
 | []=>0
 | x::r=>if wrdE x≠0 then wrdE x else wdsE r
theorem wds_one (x:List Int):wdsE [x]=wrdE x:=by
 unfold wdsE wdsE;split
 ·rfl
 ·rename_i h;simp at h;exact h.symm
theorem wds_two (x y:List Int):wdsE [x,y]=croE x y:=by
 unfold wdsE croE;rw[wds_one]
theorem wds_at :∀ {ws:List (List Int)} {k:Nat},k<ws.length→(∀ j,j<k→wrdE (el ws j)=0)→wrdE (el ws k)≠0→wdsE ws=wrdE (el ws k)
  | [],k,h,_,_=>absurd h (by simp)
  | x::r,0,_,_,h=>by rw[jjbj]at h ⊢;unfold wdsE;rw[if_pos h]
  | x::r,k+1,hk,hz,h=>by
    have h0:=hz 0 (by omega);rw[jjbj]at h0;rw[jjbt]at h ⊢;unfold wdsE;rw[if_neg (by simp[h0])];exact wds_at (by simpa using hk) (fun j hj=>by have:=hz (j+1) (by omega);rwa [jjbt]at this) h
theorem wds_all :∀ {ws:List (List Int)},(∀ j,j<ws.length→wrdE (el ws j)=0)→wdsE ws=0
  | [],_=>rfl
  | x::r,h=>by
    have h0:=h 0 (by simp);rw[jjbj]at h0;unfold wdsE;rw[if_neg (by simp[h0])];exact wds_all (fun j hj=>by have:=h (j+1) (by simpa using hj);rwa [jjbt]at this)
def labsB (l:List Int):Bool:=l.all (fun b=>inB b 1 1000)
theorem wrd_labs {l:List Int}(h:¬ 12<l.length):wrdE l=if labsB l=true then 0 else 2:=by
 unfold wrdE labsB;rw[if_neg h]
end Pl
namespace Wt
open ChangeShapes WideShapes ChangeAt RowKit Pl
theorem areLabels_any (v:Value)(l:List Int)(w:World)(h:Nums w v l)(hl:¬ 12<l.length):
  Calls Tryz.prog 164 #[v] w fun e w'=>e= .returned (.bool (labsB l))∧w=w':=by
 obtain⟨a,cap,rfl,hc⟩:=h.get
 have HC:Hid (∀ j,j<l.length→∃ b off,a=some ⟨b,off,none⟩∧b<w.heap.size∧w.cell? ⟨b,off+j,none⟩=some (.int .i64 (el l j))):=hc;have HR:Hid (∀ i,i<l.length→inB (el l i) 1 1000=false→labsB l=false):=fun i hi hb=>jjc3 hi hb
 have HZ:Hid ((∀ i,i<l.length→inB (el l i) 1 1000=true)→labsB l=true):=fun ha=>by
  show l.all _=true;rw[List.all_eq_true];intro b hb;obtain⟨j,hj,rfl⟩:=jja1 hb
  exact ha j hj
 clear h hc;generalize labsB l=r at *;generalize l.length=n at *;go_enter Tryz.func164,Tryz.ntmps164;go_wp2;go_loop [7] (fun i=>∃ k:Nat,k≤n∧i= .int .i64 k∧Hid (∀ j,j<k→inB (el l j) 1 1000=true)) (fun i=>n-(intOf i).toNat)
 case atStart=>exact ⟨0,Nat.zero_le _,rfl,fun j hj=>absurd hj (by omega)⟩
 case round=>
  obtain⟨k,hk,rfl,hall⟩:=hrel
  by_cases hlt:k<n
  ·have hlt':(k:Int)<(n:Int):=by omega
   have hk0:(0:Int)≤(k:Int):=by omega
   obtain⟨b,off,rfl,hb,g0⟩:=HC.out k hlt
   have HRk:=hidP (HR.out k hlt);have HS:Hid (inB (el l k) 1 1000=true→∀ j,j<k+1→inB (el l j) 1 1000=true):=fun g j hj=>by
    by_cases e:j=k
    ·rw [e];exact g
    ·exact hall.out j (by omega)
   generalize el l k=p at *;have ways:p<1∨(¬ p<1∧(1000:Int)<p)∨(¬ p<1∧¬ (1000:Int)<p):=by omega
   rcases ways with h1 | ⟨h1,h2⟩ | ⟨h1,h2⟩
   ·have hr:r=false:=HRk.out (by simp[inB];omega)
    subst hr;clear HS HRk HR HZ;go_wp2;go_ret;exact⟨rfl,rfl⟩
   ·have hr:r=false:=HRk.out (by simp[inB];omega)
    subst hr;clear HS HRk HR HZ;go_wp2;go_ret;exact⟨rfl,rfl⟩
   ·have HS':=hidP (HS.out (by simp[inB];omega))
    clear HS HRk;go_wp2;go_round
    case rel=>exact ⟨k+1,by omega,by go_num,HS'⟩
    case measure=>simp [intOf];omega
  ·have hnl:¬ (k:Int)<(n:Int):=by omega
   have hr:r=true:=HZ.out (fun i hi=>hall.out i (by omega));subst hr;clear HR HZ;go_wp2;go_ret;exact⟨rfl,rfl⟩
def WdsAt (w:World)(b:Nat)(vws:List Value)(ws:List (List Int)):Prop:=Blk w b vws.toArray 36∧vws.length=ws.length∧∀ j,j<ws.length→Nums w (el vws j) (el ws j)
theorem WdsAt.later {w w':World}{b B:Nat}{vws:List Value}{ws:List (List Int)}(h:WdsAt w b vws ws)(hb:Below B w w')(hB:w.heap.size≤B):WdsAt w' b vws ws:=
 ⟨h.1.below hb (Nat.lt_of_lt_of_le h.1.lt hB),h.2.1,fun j hj=>(h.2.2 j hj).later hb hB⟩
theorem jjf0 (b:Nat)(vws:List Value)(ws:List (List Int))(n:Nat)(w:World)(h:WdsAt w b vws ws)(hn:ws.length=n)(hn2:n≤10):
  Calls Tryz.prog 131 #[.slice (some ⟨b,0,none⟩) n n] w fun e w'=>e= .returned (.int .i64 (wdsE ws))∧w=w':=by
 obtain⟨hB,hl,hN⟩:=h
 have HB:=hidP hB;have HN:Hid (∀ j,j<n→Nums w (el vws j) (el ws j)):=fun j hj=>hN j (by omega)
 have HL:=hidP (hl.trans hn);have HA:Hid (∀ k,k<n→(∀ j,j<k→wrdE (el ws j)=0)→wrdE (el ws k)≠0→wdsE ws=wrdE (el ws k)):=fun k hk=>wds_at (by omega)
 have HZ:Hid ((∀ j,j<n→wrdE (el ws j)=0)→wdsE ws=0):=fun h=>wds_all (fun j hj=>h j (by omega))
 clear hB hl hN hn;generalize wdsE ws=r at *;have hnot:∀ (x:Bool) (w:World),(Op.unary .not (.bool x)).run Tryz.prog w= .ok (.bool (!x)) w:=fun _ _=>rfl
 go_enter Tryz.func131,Tryz.ntmps131;go_wp2;go_loop [7] (fun i=>∃ k:Nat,k≤n∧i= .int .i64 k∧Hid (∀ j,j<k→wrdE (el ws j)=0)) (fun i=>n-(intOf i).toNat)
 case atStart=>exact ⟨0,Nat.zero_le _,rfl,fun j hj=>absurd hj (by omega)⟩
 case round=>
  obtain⟨k,hk,rfl,hall⟩:=hrel
  by_cases hlt:k<n
  ·have hlt':(k:Int)<(n:Int):=by omega
   have hk0:(0:Int)≤(k:Int):=by omega
   have c0:=HB.out.cell k (v:=el vws k) (by rw[List.getElem?_toArray,jjaj (by rw[HL.out];exact hlt)];exact List.getElem?_eq_getElem _);have HNk:=hidP (HN.out k hlt);have HAk:=hidP (HA.out k hlt hall.out);have HS:Hid (wrdE (el ws k)=0→∀ j,j<k+1→wrdE (el ws j)=0):=fun g j hj=>by
    by_cases e:j=k
    ·rw [e];exact g
    ·exact hall.out j (by omega)
   generalize el ws k=x at *;generalize el vws k=vx at *;obtain⟨ax,cx,hvx,_⟩:=HNk.out.get
   subst hvx;by_cases h12:12<x.length
   ·have hr:r=1:=by have h9:=wrd_long h12;rw[h9]at HAk;exact HAk.out (by decide)
    have h12':(12:Int)<(x.length:Int):=by omega
    subst hr;clear HAk HS HNk HA HZ;generalize x.length=X at *;go_wp2;go_ret;exact⟨rfl,rfl⟩
   ·have h12':¬ (12:Int)<(x.length:Int):=by omega
    have HL2:Hid (Calls Tryz.prog 164 #[.slice ax x.length cx] w fun e w'=>e= .returned (.bool (labsB x))∧w=w'):=areLabels_any _ x w HNk.out h12;have hw:=wrd_labs h12;generalize x.length=X at *;rcases jjam (labsB x)with hb | hb
    ·rw [if_pos hb]at hw
     rw[hb]at HL2;have HS':=hidP (HS.out hw);clear HS HAk HNk hw hb;go_wp2_with (first | (go_at_call 164;(with_reducible refine HL2.out.mono ?_);rintro e w' ⟨rfl,rfl⟩));go_round
     case rel=>exact ⟨k+1,by omega,by go_num,HS'⟩
     case measure=>simp [intOf];omega
    ·rw [if_neg (by simp[hb])]at hw
     rw[hb]at HL2;have hr:r=2:=by rw[hw]at HAk;exact HAk.out (by decide)
     subst hr;clear HS HAk HNk hw hb HA HZ;go_wp2_with (first | (go_at_call 164;(with_reducible refine HL2.out.mono ?_);rintro e w' ⟨rfl,rfl⟩));go_ret;exact⟨rfl,rfl⟩
  ·have hnl:¬ (k:Int)<(n:Int):=by omega
   have hr:r=0:=HZ.out (fun i hi=>hall.out i (by omega));subst hr;clear HA HZ;go_wp2;go_ret;exact⟨rfl,rfl⟩
theorem low {w w':World}{a:Addr}{v:Value}(h:w.cell? a=some v)(hb:Below w.heap.size w w'):w'.cell? a=some v:=(hb.cell (World.block_lt_of_cell? _ _ h)).trans h
theorem lowA {w w':World}{o:Obj}{a:Addr}{v:Value}(h:w.cell? a=some v)(hb:Below (w.alloc o).heap.size (w.alloc o) w'):w'.cell? a=some v:=low (low h ((Below.refl _ _).alloc (Nat.le_refl _) o)) hb
theorem lowN {w w':World}{c:Value}{t:TypeId}(hb:Below (w.alloc (.cells #[c] t)).heap.size (w.alloc (.cells #[c] t)) w'):w'.cell? ⟨w.heap.size,0,none⟩=some c:=low ((Blk.made w #[c] t).cell 0 rfl) hb
end Go.Proofs.YtppkiejhhmahcaaGreatDoor.Wt
