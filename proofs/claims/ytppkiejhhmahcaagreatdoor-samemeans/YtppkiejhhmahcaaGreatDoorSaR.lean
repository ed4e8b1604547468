/- Facts, joined. -/
import Derived.Test.YtppkiejhhmahcaaGreatDoorSaQ
set_option linter.unusedSimpArgs false
set_option linter.unusedVariables false
set_option maxHeartbeats 6400000
set_option maxRecDepth 100000
namespace Go.Proofs.YtppkiejhhmahcaaGreatDoor.Pl
structure Bis (k l:List St)(R:Nat→Nat→Prop):Prop where
 rng:∀ q p,R q p→q<k.length∧p<l.length
 dif:∀ q p,R q p→difB (el k q) (el l p)=false
 arc:∀ q p,R q p→∀ i t u:Nat,i<(el k q).2.length→(el (el k q).2 i).2.2.2=(t:Int)→(el (el l p).2 i).2.2.2=(u:Int)→R t u
theorem Bis.symm {k l:List St}{R:Nat→Nat→Prop}(h:Bis k l R):Bis l k fun p q=>R q p:=
 ⟨fun p q hr=>(h.rng q p hr).symm,fun p q hr=>by rw[jjew];exact h.dif q p hr,fun p q hr i t u hi ht hu=>h.arc q p hr i u t (by rw[jjbs (h.dif q p hr)];exact hi) hu ht⟩
theorem Bis.apart {z:Int}{k l:List St}{R:Nat→Nat→Prop}(h:Bis k l R)(hl:faultM (z,l)=0){q r:Nat}(ha:Aprt k q r):∀ p s,R q p→R r s→Aprt l p s:=by
  induction ha with
  | @now q r hd=>
    intro p s h1 h2;refine .now ?_
    cases e:difB (el l p) (el l s)with
    | true=>rfl
    | false=>
      have h3:=jje8 (jje8 (h.dif q p h1) e) (by rw[jjew];exact h.dif r s h2);rw[h3]at hd;cases hd
  | @step q r i t u hd hi ht hu _ ih=>
    intro p s h1 h2;cases e:difB (el l p) (el l s)with
    | true=>exact .now e
    | false=>
      have hip:i<(el l p).2.length:=by rw[← jjbs (h.dif q p h1)];exact hi
      have his:i<(el l s).2.length:=by rw[← jjbs e];exact hip
      obtain⟨t2,ht2,_⟩:=to_of hl p (h.rng _ _ h1).2 _ (jjac hip)
      obtain⟨u2,hu2,_⟩:=to_of hl s (h.rng _ _ h2).2 _ (jjac his)
      exact .step e hip ht2 hu2 (ih _ _ (h.arc q p h1 i t t2 hi ht ht2) (h.arc r s h2 i u u2 (by rw[← jjbs hd];exact hi) hu hu2))
theorem Bis.alkL {z:Int}{k l:List St}{R:Nat→Nat→Prop}(h:Bis k l R)(hl:faultM (z,l)=0){q r p s:Nat}(h1:R q p)(h2:R r s)(g:Alk l p s):Alk k q r:=fun a=>g (h.apart hl a p s h1 h2)
theorem Bis.alkR {y:Int}{k l:List St}{R:Nat→Nat→Prop}(h:Bis k l R)(hk:faultM (y,k)=0){q r p s:Nat}(h1:R q p)(h2:R r s)(g:Alk k q r):Alk l p s:=fun a=>g (h.symm.apart hk a q r h1 h2)
theorem lst_bis {y z:Int}{k l:List St}{R:Nat→Nat→Prop}{f f':Nat→Nat}(hl:faultM (z,l)=0)(hk:faultM (y,k)=0)(hf:FstC l f)(hf':FstC k f')(hB:Bis k l R){s s':Nat}(h0:R s' s){x:Mc}(h:lstA l f s=(x,0)):lstA k f' s'=(x,0):=by
  obtain⟨hs',hs⟩:=hB.rng _ _ h0
  obtain⟨h1,L,hE,hL⟩:=lst_exp hl hf hs h
  have hlen:=hE.len;have hex:∀ i,i<L.length→∃ q p,R q p∧f p=el L i:=by
    intro i;induction i using Nat.strongRecOn with
    | _ i ih=>
      intro hi;by_cases e0:i=0
      · subst e0
        exact⟨s',s,h0,hE.zero.2.1.symm⟩
      · obtain⟨j,kk,hj,_,hkk,e⟩:=hE.led i (by omega) hi
        obtain⟨q,p,hR,hp⟩:=ih j hj (by omega)
        obtain⟨hq,hpl⟩:=hB.rng _ _ hR
        rw[← hp,(hf.same hl hpl).2]at hkk;obtain⟨a,ha,rfl⟩:=List.mem_map.1 hkk
        obtain⟨m,hm,rfl⟩:=jja1 ha
        obtain⟨u,hu,hul⟩:=to_of hl p hpl _ (jjac hm)
        have hmq:m<(el k q).2.length:=by rw[jjbs (hB.dif _ _ hR)];exact hm
        obtain⟨t,ht,htl⟩:=to_of hk q hq _ (jjac hmq)
        refine⟨t,u,hB.arc _ _ hR m t u hmq ht hu,?_⟩
        rw[← e];simp only;rw[hu,Int.toNat_natCast]
  have hex2:∀ i,∃ q,i<L.length→∃ p,R q p∧f p=el L i:=fun i=>by
    by_cases hi:i<L.length
    · obtain⟨q,p,h1,h2⟩:=hex i hi
      exact⟨q,fun _=>⟨p,h1,h2⟩⟩
    · exact⟨0,fun g=>absurd g hi⟩
  obtain⟨Q,hQ⟩:=Classical.axiomOfChoice hex2
  have hcls:∀ {q p r u:Nat},R q p→R r u→f p=f u→f' q=f' r:=fun {q p r u} a b e=>by
    obtain⟨a1,a2⟩:=hB.rng _ _ a
    obtain⟨b1,b2⟩:=hB.rng _ _ b
    exact(hf'.one _ _ a1 b1).2 (hB.alkL hl a b ((hf.one _ _ a2 b2).1 e))
  have hcls2:∀ {q p r u:Nat},R q p→R r u→f' q=f' r→f p=f u:=fun {q p r u} a b e=>by
    obtain⟨a1,a2⟩:=hB.rng _ _ a
    obtain⟨b1,b2⟩:=hB.rng _ _ b
    exact(hf.one _ _ a2 b2).2 (hB.alkR hk a b ((hf'.one _ _ a1 b1).1 e))
  obtain⟨g,hg⟩:∃ g:Nat→Nat,∀ i,g i=if i<L.length then f' (Q i) else k.length+i:=⟨_,fun _=>rfl⟩
  have gin:∀ i,i<L.length→g i=f' (Q i):=fun i hi=>by rw[hg,if_pos hi]
  have hgi:∀ i j,g i=g j→i=j:=fun i j e=>by
    by_cases hi:i<L.length
    · obtain⟨p,a,b⟩:=hQ i hi
      by_cases hj:j<L.length
      · obtain⟨p2,a2,b2⟩:=hQ j hj
        rw[gin i hi,gin j hj]at e;have h9:=hcls2 a a2 e;rw[b,b2]at h9;have k1:=jjb6 hE.nodup hi;have k2:=jjb6 hE.nodup hj;rw[h9,k2]at k1;exact k1.symm
      · rw[gin i hi,hg j,if_neg hj]at e
        have:=hf'.lt (hB.rng _ _ a).1;omega
    · by_cases hj:j<L.length
      · obtain⟨p2,a2,b2⟩:=hQ j hj
        rw[gin j hj,hg i,if_neg hi]at e
        have:=hf'.lt (hB.rng _ _ a2).1;omega
      · rw[hg i,hg j,if_neg hi,if_neg hj]at e
        omega
  have h9:=numA_again (fin':=lstF k) (hops':=lstH k f') hgi h hE (fun i hi=>?_) (fun i hi=>?_)
  · have e0:g 0=f' s':=by
      obtain⟨p,a,b⟩:=hQ 0 hE.zero.1
      rw[gin 0 hE.zero.1];exact hcls a h0 (by rw[b,hE.zero.2.1])
    rw[e0]at h9;exact h9
  · obtain⟨p,a,b⟩:=hQ i hi
    obtain⟨a1,a2⟩:=hB.rng _ _ a
    rw[gin i hi,(hf'.same hk a1).1,hE.sts i hi,← b];simp only[lstF];have e1:=(dif_false.1 (hB.dif _ _ a)).1;have e2:=congrArg Prod.fst (hf.same hl a2).1;simp only[lstF]at e2;rw[e1,e2]
  · obtain⟨p,a,b⟩:=hQ i hi
    obtain⟨a1,a2⟩:=hB.rng _ _ a
    rw[gin i hi,(hf'.same hk a1).2,hE.sts i hi,← b];simp only;rw[(hf.same hl a2).2];have hll:=jjbs (hB.dif _ _ a);refine jjc2 (by simp only[lstH,List.length_map];exact hll) fun m hm=>?_
    simp only[lstH,List.length_map]at hm;have hm2:m<(el l p).2.length:=by omega
    obtain⟨t,ht,htl⟩:=to_of hk _ a1 _ (jjac hm)
    obtain⟨u,hu,hul⟩:=to_of hl _ a2 _ (jjac hm2)
    have hRtu:=hB.arc _ _ a m t u hm ht hu;obtain⟨e1,e2,e3⟩:=dif_el (hB.dif _ _ a) hm
    have hmem:f u ∈ L:=by
      have h8:=hE.shut i hi (el (lstH l f p) m) (by rw[← b,(hf.same hl a2).2];exact jjac (by simp only[lstH,List.length_map];exact hm2));have ex:(el (lstH l f p) m).2.2.2=f u:=by unfold lstH;rw[jja2 hm2];simp only;rw[hu,Int.toNat_natCast]
      rwa [ex]at h8
    obtain⟨g1,g2⟩:=jjck hmem
    obtain⟨p3,a3,b3⟩:=hQ _ g1
    have hgo:g (L.idxOf (f u))=f' t:=by
      rw[gin _ g1];exact hcls a3 hRtu (by rw[b3,g2])
    unfold lstH;rw[jja2 hm,jja2 (by simp only[List.length_map];exact hm2),jja2 (by simp only[List.length_map];exact hm2),jja2 hm2];simp only[arcG];rw[e1,e2,e3,ht,hu,Int.toNat_natCast,Int.toNat_natCast,Int.toNat_natCast,hgo]
def srtM (p:Mc):Mc:=mapM (sortS false) p
theorem srt_len (p:Mc):(srtM p).2.length=p.2.length:=by simp[srtM,mapM]
theorem jjc1 {p:Mc}(h:faultM p=0):faultM (srtM p)=0:=fault_map (fun l=>by rw[jjbk];exact Nat.le_refl _) (fun l a ha=>(jjbh false l).mem_iff.1 ha) h
def SmlAns (m x:Mc)(tot ec:Int):Prop:=
 (faultM m≠0∧x=(0,[])∧tot=0∧ec=faultM m)∨
 (faultM m=0∧empB m.2=true∧x=(0,[])∧tot=0∧ec=7)∨
 (faultM m=0∧empB m.2=false∧m.2.all (fun s=>onceB s.2)=false∧x=(0,[])∧tot=0∧ec=8)∨
 (faultM m=0∧empB m.2=false∧m.2.all (fun s=>onceB s.2)=true∧∃ p t e,PshAns m p t e∧
  ((e≠0∧x=(0,[])∧tot=0∧ec=e)∨(e=0∧p.1<0∧x=srtM p∧tot=0∧ec=0)∨
   (e=0∧0≤p.1∧(∃ f,FstC (srtM p).2 f∧lstA (srtM p).2 f p.1.toNat=(x,0))∧tot=t∧ec=0)))
theorem bis_self (l:List St){z:Int}(hr:faultM (z,l)=0):Bis l l fun q p=>q=p∧q<l.length:=
 ⟨fun q p h=>⟨h.2,by rw[← h.1];exact h.2⟩,fun q p h=>by rw[h.1];exact dif_refl _,fun q p h i t u hi ht hu=>by
  obtain⟨rfl,hq⟩:=h
  have e:(t:Int)=u:=ht.symm.trans hu
  obtain⟨t',h1,h2⟩:=to_of hr q hq _ (jjac hi)
  exact⟨by omega,by omega⟩⟩
theorem jjb9 {m p:Mc}{t:Int}(h:PshAns m p t 0):faultM p=0:=by
 rcases h with⟨h0,_,_,h1⟩ | ⟨hf,aa,bs,vs,e,hA,hB,hD,h⟩
 ·exact absurd h1.symm h0
 ·obtain ⟨z,l⟩:=m
  obtain⟨tz,tl,hT,hfT,hAT,hBT,hST,hz,hlen⟩:=jjcy hf hA hB
  have hT':trmM (z,l) aa bs=(tz,tl):=hT;rw[hT']at hD h;rcases h with⟨k,_,_,k2⟩ | ⟨_,_,_,_,k⟩ | ⟨he,hO,hx,_,_⟩
  ·exact absurd k2.symm k
  ·cases k
  ·subst he
   obtain⟨b0,hb0⟩:∃ b,Least (BackC tl) tl.length b:=by
    have:=jjcx hf hA hB;have e9:tl=(keptL aa bs l.length).map (trimS l (keptL aa bs l.length)):=by have:=congrArg Prod.snd hT;exact this.symm
    rw[e9,List.length_map];exact⟨_,this⟩
   have hall:∀ q,q<tl.length→∃ c,EndC tl q c:=fun q hq=>end_all (m:=(tz,tl)) hfT hb0 hq (by rw[hBT b0 hb0];exact el_true.2 hq)
   obtain⟨hP,hL⟩:=pot_of (m:=(tz,tl)) hfT hall hD
   rw[hx];exact psh_right (m:=(tz,tl)) hfT hP hO
theorem SmlAns.one {m x x':Mc}{t t' e e':Int}(h:SmlAns m x t e)(k:SmlAns m x' t' e'):x=x'∧t=t'∧e=e':=by
 rcases h with⟨h0,h1,h2,h3⟩ | ⟨h0,h4,h1,h2,h3⟩ | ⟨h0,h4,h5,h1,h2,h3⟩ | ⟨h0,h4,h5,p,s,g,hP,h⟩<;>
 rcases k with⟨k0,k1,k2,k3⟩ | ⟨k0,k4,k1,k2,k3⟩ | ⟨k0,k4,k5,k1,k2,k3⟩ | ⟨k0,k4,k5,p',s',g',kP,k⟩<;>
 first
 | exact absurd k0 h0
 | exact absurd h0 k0
 | exact⟨h1.trans k1.symm,h2.trans k2.symm,h3.trans k3.symm⟩
 | exact absurd (h4.symm.trans k4) (by decide)
 | exact absurd (h5.symm.trans k5) (by decide)
 | skip
 obtain⟨rfl,rfl,rfl⟩:=hP.one kP
 rcases h with⟨a0,a1,a2,a3⟩ | ⟨a0,az,a1,a2,a3⟩ | ⟨a0,az,⟨f,hf,hl⟩,a2,a3⟩<;>rcases k with⟨b0,b1,b2,b3⟩ | ⟨b0,bz,b1,b2,b3⟩ | ⟨b0,bz,⟨f',hf',hl'⟩,b2,b3⟩<;>
 first
 | exact absurd b0 a0
 | exact absurd a0 b0
 | exact⟨a1.trans b1.symm,a2.trans b2.symm,a3.trans b3.symm⟩
 | omega
 | skip
 subst a0;have hr:=jjc1 (jjb9 hP);have hz:p.1.toNat<(srtM p).2.length:=by
  have:=(jjag hr).1.2;simp only[srtM,mapM]at this ⊢;omega
 have:=lst_bis (z:=p.1) (y:=p.1) (l:=(srtM p).2) (k:=(srtM p).2) hr hr hf hf' (bis_self _ hr) (s:=p.1.toNat) (s':=p.1.toNat) ⟨rfl,hz⟩ hl;rw[hl']at this;exact⟨(congrArg Prod.fst this).symm,a2.trans b2.symm,a3.trans b3.symm⟩
end Pl
namespace Wt
open ChangeShapes WideShapes ChangeAt RowKit Pl
theorem full_empY (l:List St):l.all (fun s=>s.2.all fullA)= !empB l:=by
 unfold empB;rw[Bool.eq_iff_iff];simp only[List.all_eq_true,Bool.not_eq_true',List.any_eq_false,Bool.not_eq_true,fullA]
theorem bits_lst (z:Int)(a:Option Addr)(cap:Nat)(l:List St)(w:World)(hM:Mach w (.agg #[.int .i64 z,.slice a l.length cap]) (z,l))(hok:okM (z,l))(hr:faultM (z,l)=0)(bE bO:Bool)(hE:empB l=bE)(hO:l.all (fun s=>onceB s.2)=bO):
  ∃ b1 b4 b5:Bool,∀ W,Below w.heap.size w W→Calls Tryz.prog 49 #[.agg #[.int .i64 z,.slice a l.length cap]] W fun e w'=>e= .returned (.tuple #[.agg #[.bool b1,.bool (!bE),.bool (!bE&&bO),.bool b4,.bool b5],.int .i64 0])∧Below W.heap.size W w':=
 ⟨_,_,_,fun W hW=>bits_ok z a cap l W (hM.later hW (Nat.le_refl _)) hok hr _ (!bE) bO _ _ _ rfl (by rw[full_empY,hE]) hO rfl rfl rfl⟩
def rfE (m:Mc):Int:=if faultM m≠0 then faultM m else if empB m.2=true then 7 else if m.2.all (fun s=>onceB s.2)=true then 0 else 8
theorem refused_any (v:Value)(m:Mc)(w:World)(h:Mach w v m)(hok:okM m)(r:Int)(hr:rfE m=r):
  Calls Tryz.prog 52 #[v] w fun e w'=>e= .returned (.int .i64 r)∧Below w.heap.size w w':=by
 have hnot:∀ (x:Bool) (w:World),(Op.unary .not (.bool x)).run Tryz.prog w= .ok (.bool (!x)) w:=fun _ _=>rfl
 by_cases fa:faultM m=0
 ·obtain ⟨z,l⟩:=m
  have h2:=h;obtain⟨vs,rfl,hS⟩:=h2
  obtain⟨a,cap,rfl⟩:=hS.sl
  simp only at h ⊢;cases he:empB l
  ·cases ho:l.all (fun s=>onceB s.2)
   ·obtain ⟨b1,b4,b5,hLK⟩:=bits_lst z a cap l w h hok fa false false he ho
    simp only[Bool.not_false,Bool.true_and]at hLK;obtain rfl:r=8:=by rw[← hr];unfold rfE;rw[if_neg (fun g=>g fa),if_neg (by simp[he]),if_neg (by simp only[ho];simp)]
    have HLK:=hidP hLK;clear hr fa he ho h hok hS hLK;generalize l.length=n at *;go_enter Tryz.func52,Tryz.ntmps52;go_wp2_with (first
     | (go_at_call 49;(with_reducible refine(HLK.out _ (by go_grown)).mono ?_);rintro e w1 ⟨rfl,hb⟩;obtain⟨s1,_,hb1⟩:=boxed hb (by simp);have HB1:=hidP hb1;clear hb hb1 HLK))
    go_ret;exact⟨rfl,HB1.out.alloc HB1.out.size _⟩
   ·obtain ⟨b1,b4,b5,hLK⟩:=bits_lst z a cap l w h hok fa false true he ho
    simp only[Bool.not_false,Bool.true_and]at hLK;obtain rfl:r=0:=by rw[← hr];unfold rfE;rw[if_neg (fun g=>g fa),if_neg (by simp[he]),if_pos ho]
    have HLK:=hidP hLK;clear hr fa he ho h hok hS hLK;generalize l.length=n at *;go_enter Tryz.func52,Tryz.ntmps52;go_wp2_with (first
     | (go_at_call 49;(with_reducible refine(HLK.out _ (by go_grown)).mono ?_);rintro e w1 ⟨rfl,hb⟩;obtain⟨s1,_,hb1⟩:=boxed hb (by simp);have HB1:=hidP hb1;clear hb hb1 HLK))
    go_ret;exact⟨rfl,HB1.out.alloc HB1.out.size _⟩
  ·obtain ⟨b1,b4,b5,hLK⟩:=bits_lst z a cap l w h hok fa true _ he rfl
   simp only[Bool.not_true,Bool.false_and]at hLK;obtain rfl:r=7:=by rw[← hr];unfold rfE;rw[if_neg (fun g=>g fa),if_pos he]
   have HLK:=hidP hLK;clear hr fa he h hok hS hLK;generalize l.length=n at *;go_enter Tryz.func52,Tryz.ntmps52;go_wp2_with (first
    | (go_at_call 49;(with_reducible refine(HLK.out _ (by go_grown)).mono ?_);rintro e w1 ⟨rfl,hb⟩;obtain⟨s1,_,hb1⟩:=boxed hb (by simp);have HB1:=hidP hb1;clear hb hb1 HLK))
   go_ret;exact⟨rfl,HB1.out.alloc HB1.out.size _⟩
 ·have e1:faultM m=r:=by rw[← hr];unfold rfE;rw[if_pos fa]
  have h0:¬ r=0:=by rw[← e1];exact fa
  have HLK:=hidP (fun W (hW:Below w.heap.size w W)=>bits_bad v m W (h.later hW (Nat.le_refl _)) hok r e1 h0);obtain⟨vs,rfl,hS⟩:=h
  obtain⟨a,cap,rfl⟩:=hS.sl
  have hrn:(r !=0)=true:=by simpa using h0
  clear hS hok hr h0 fa e1;generalize m.2.length=n at *;generalize m.1=z at *;go_enter Tryz.func52,Tryz.ntmps52;go_wp2_with (first
   | (go_at_call 49;(with_reducible refine(HLK.out _ (by go_grown)).mono ?_);rintro e w1 ⟨rfl,hb⟩;obtain⟨s1,_,hb1⟩:=boxed hb (by simp);have HB1:=hidP hb1;clear hb hb1 HLK))
  go_ret;exact⟨rfl,HB1.out.alloc HB1.out.size _⟩
theorem res_mak (tm:Array Value)(W:World)(R:Nat)(tot ec:Int)(x0 x1:Value)(hB:Blk W R #[x0,x1] 24)(h2:tm.getD 2 undef= .pointer (some ⟨R,0,none⟩))(h3:tm.getD 3 undef= .int .i64 tot)(h4:tm.getD 4 undef= .int .i64 ec):(results Tryz.f23 tm).run Tryz.prog W= .ok (.tuple #[.agg #[x0,x1],.int .i64 tot,.int .i64 ec]) W:=by
 have c0:=hB.cell 0 (v:=x0) rfl;have c1:=hB.cell 1 (v:=x1) rfl;simp only[Array.getD_eq_getD_getElem?]at h2 h3 h4;simp[results,Tryz.results23,go_sem,h2,h3,h4,c0,c1]
def HeldQy (Sb:Nat)(z:Int)(vs:Value)(w:World):Prop:=w.cell? ⟨Sb,0,none⟩=some (.int .i64 z)∧w.cell? ⟨Sb,1,none⟩=some vs
theorem psh_noneY {m p:Mc}{t:Int}(h:PshAns m p t 0)(hz:p.1<0):p=(-1,[]):=by
 have hf:=jjb9 h;rcases h with⟨h0,_,_,h1⟩ | ⟨hf0,aa,bs,vs,e,hA,hB,hD,h⟩
 ·exact absurd h1.symm h0
 ·obtain ⟨z,l⟩:=m
  obtain⟨tz,tl,hT,hfT,hAT,hBT,hST,hzz,hlen⟩:=jjcy hf0 hA hB
  have hT':trmM (z,l) aa bs=(tz,tl):=hT;rw[hT']at hD h;rcases h with⟨k,_,_,k2⟩ | ⟨_,_,_,_,k⟩ | ⟨he,hO,hx,_,_⟩
  ·exact absurd k2.symm k
  ·cases k
  ·subst hx
   have h9:tl.length=0:=hzz.1 hz;have h8:(pshM vs (tz,tl)).2=[]:=List.eq_nil_of_length_eq_zero (by rw[show (pshM vs (tz,tl)).2.length=tl.length from jjca _ _];exact h9);have h7:=(jjag (m:=pshM vs (tz,tl)) hf).1.1;refine Prod.ext ?_ h8
   show(pshM vs (tz,tl)).1= -1;omega
theorem leastMk_own (v:Value)(m:Mc)(w:World)(h:Mach w v m)(hok:okM m)(ht:Tab w):
  Calls Tryz.prog 23 #[v] w fun e w'=>PshOwn (SmlAns m) w e w':=by
 obtain⟨r,hr⟩:∃ r,rfE m=r:=⟨_,rfl⟩
 have HRF:=hidP (fun W (hW:Below w.heap.size w W)=>refused_any v m W (h.later hW (Nat.le_refl _)) hok r hr);have HPS:=hidP (fun W (hW:Below w.heap.size w W)=>pushP_any v m W (h.later hW (Nat.le_refl _)) hok);have HTB:=hidP ht;have HA0:Hid (r≠0→SmlAns m (0,[]) 0 r):=fun h0=>by
  unfold rfE at hr;by_cases fa:faultM m=0
  ·rw [if_neg (fun g=>g fa)]at hr
   by_cases he:empB m.2=true
   ·rw [if_pos he]at hr
    exact .inr (.inl ⟨fa,he,rfl,rfl,hr.symm⟩)
   ·rw [if_neg he]at hr
    by_cases ho:m.2.all (fun s=>onceB s.2)=true
    ·rw [if_pos ho]at hr;exact absurd hr.symm h0
    ·rw [if_neg ho]at hr
     exact .inr (.inr (.inl ⟨fa,by simpa using he,by simpa using ho,rfl,rfl,hr.symm⟩))
  ·rw [if_pos fa]at hr
   exact .inl ⟨fa,rfl,rfl,hr.symm⟩
 have HA4:Hid (r=0→∀ x tot ec,(∃ p t e,PshAns m p t e∧((e≠0∧x=(0,[])∧tot=0∧ec=e)∨(e=0∧p.1<0∧x=srtM p∧tot=0∧ec=0)∨(e=0∧0≤p.1∧(∃ f,FstC (srtM p).2 f∧lstA (srtM p).2 f p.1.toNat=(x,0))∧tot=t∧ec=0)))→SmlAns m x tot ec):=fun h0 x tot ec hx=>by
  rw[h0]at hr;unfold rfE at hr;by_cases fa:faultM m=0
  ·rw [if_neg (fun g=>g fa)]at hr
   by_cases he:empB m.2=true
   ·rw [if_pos he]at hr;cases hr
   ·rw [if_neg he]at hr
    by_cases ho:m.2.all (fun s=>onceB s.2)=true
    ·exact .inr (.inr (.inr ⟨fa,by simpa using he,ho,hx⟩))
    ·rw [if_neg ho]at hr;cases hr
  ·rw [if_pos fa]at hr;exact absurd hr fa
 have HFR:Hid (∀ p t,PshAns m p t 0→faultM p=0∧faultM (srtM p)=0):=fun p t h=>⟨jjb9 h,jjc1 (jjb9 h)⟩
 have HNO:Hid (∀ p t,PshAns m p t 0→p.1<0→p=(-1,[])):=fun p t h hz=>psh_noneY h hz
 obtain⟨vs,rfl,hS⟩:=h
 obtain⟨a,cap,rfl⟩:=hS.sl
 clear hS hok hr ht;generalize SmlAns m=Q at *;obtain⟨z,l⟩:=m
 simp only at HRF HPS ⊢;generalize l.length=nl at *;have HB0:Hid (Below w.heap.size w ((w.alloc (.cells #[.int .i64 z,.slice a nl cap] 24)).alloc (.cells #[.int .i64 0,.slice none 0 0] 24))):=(((Below.refl _ _).alloc (Nat.le_refl _) _).alloc (by simp) _)
 go_enter Tryz.func23,Tryz.ntmps23;go_upto_region 2 with(first
  | (go_at_call 52;(with_reducible refine(HRF.out _ HB0.out).mono ?_);rintro e w1 ⟨rfl,hb⟩;obtain⟨s1,k0,k1,hb1⟩:=boxedTwo hb (by simp);have HB1:=hidP hb1;have K0:=hidP k0;have K1:=hidP k1;clear hb hb1 k0 k1 HRF HB0))
 by_cases h0:r=0
 rotate_left
 ·have hrn:(r !=0)=true:=by simpa using h0
  have HAN:=hidP (HA0.out h0);have e0:=K1.out.cell 0 (v:= .int .i64 0) rfl;have e1:=K1.out.cell 1 (v:= .slice none 0 0) rfl;have g0:=K1.out.fz 0;have g1:=K1.out.fz 1;clear h0;go_wp2
  exact bodyPost_ret (res_mak _ _ (w.heap.size+1) 0 r _ _ ((K1.out.set 0 (.int .i64 0)).set 1 (.slice none 0 0)) rfl rfl rfl) rfl ⟨_,_,_,_,rfl,HAN.out,.inl ⟨rfl,jja5 _⟩,(HB1.out.setCell (p:=⟨w.heap.size+1,0,none⟩) (by show w.heap.size≤w.heap.size+1;omega) _).setCell (p:=⟨w.heap.size+1,1,none⟩) (by show w.heap.size≤w.heap.size+1;omega) _⟩
 have HA5:=hidP (HA4.out h0);clear HA4;subst h0;have c0:=K0.out.cell 0 (v:= .int .i64 z) rfl;have c1:=K0.out.cell 1 (v:= .slice a nl cap) rfl;clear HA0 s1;go_upto_region 5 with(first
  | (go_at_call 53;(with_reducible refine(HPS.out _ HB1.out).mono ?_);rintro e w2 ⟨vp,p,t,ec,rfl,hq,hi,hb2⟩;have HP2:=hidP hq;have HM2:=hidP hi;obtain⟨vsp,rfl,hSp⟩:=hi;obtain⟨ap,cp,rfl⟩:=hSp.sl;have K2:=hidP (K1.out.below hb2 K1.out.lt);have HB2:=hidP (HB1.out.trans (hb2.mono HB1.out.size));clear hq hb2 hSp HPS))
 clear c0 c1 HB1 K1 K0;by_cases he:ec=0
 rotate_left
 ·have hne:(ec !=0)=true:=by simpa using he
  have HAN:=hidP (HA5.out (0,[]) 0 ec ⟨p,t,ec,HP2.out,.inl ⟨he,rfl,rfl,rfl⟩⟩);have e0:=K2.out.cell 0 (v:= .int .i64 0) rfl;have e1:=K2.out.cell 1 (v:= .slice none 0 0) rfl;have g0:=K2.out.fz 0;have g1:=K2.out.fz 1;have l1:=K2.out.lt;clear he;go_wp2
  exact bodyPost_ret (res_mak _ _ (w.heap.size+1) 0 ec _ _ (((K2.out.set 0 (.int .i64 0)).set 1 (.slice none 0 0)).alloc _) rfl rfl rfl) rfl ⟨_,_,_,_,rfl,HAN.out,.inl ⟨rfl,jja5 _⟩,((HB2.out.setCell (p:=⟨w.heap.size+1,0,none⟩) (by show w.heap.size≤w.heap.size+1;omega) _).setCell (p:=⟨w.heap.size+1,1,none⟩) (by show w.heap.size≤w.heap.size+1;omega) _).alloc (by simp[World.setCell];exact HB2.out.size) _⟩
 subst he;obtain⟨hfp,hfs⟩:=HFR.out p t HP2.out
 have HFP:=hidP hfp;have HFS:=hidP hfs;clear hfp hfs HFR;have K2l:=K2.out.lt;by_cases hz:p.1<0
 ·obtain rfl:=HNO.out p t HP2.out hz
  have HAN:=hidP (HA5.out (-1,[]) 0 0 ⟨(-1,[]),t,0,HP2.out,.inr (.inl ⟨rfl,hz,rfl,rfl,rfl⟩)⟩);have e0:=K2.out.cell 0 (v:= .int .i64 0) rfl;have e1:=K2.out.cell 1 (v:= .slice none 0 0) rfl;have g0:=K2.out.fz 0;have g1:=K2.out.fz 1;have MN:Hid (∀ W:World,Mach W (.agg #[.int .i64 (-1),.slice none 0 0]) (-1,[])):=fun W=>⟨_,rfl,(OwnSts.nil W 0).sts⟩
  clear hz;go_wp2
  exact bodyPost_ret (res_mak _ _ (w.heap.size+1) 0 0 _ _ (((K2.out.set 0 (.int .i64 (-1))).set 1 (.slice none 0 0)).alloc _) rfl rfl rfl) rfl ⟨_,_,_,_,rfl,HAN.out,.inl ⟨rfl,MN.out _⟩,((HB2.out.setCell (p:=⟨w.heap.size+1,0,none⟩) (by show w.heap.size≤w.heap.size+1;omega) _).setCell (p:=⟨w.heap.size+1,1,none⟩) (by show w.heap.size≤w.heap.size+1;omega) _).alloc (by simp[World.setCell];exact HB2.out.size) _⟩
 have hz0:0≤p.1:=by omega
 have hzb:(p.1== -1)=false:=by simp;omega
 have HA6:=hidP (fun x h9=>HA5.out x t 0 ⟨p,t,0,HP2.out,.inr (.inr ⟨rfl,hz0,h9,rfl,rfl⟩)⟩);have HAR:=hidP (fun W vv (hv:Mach W vv p)=>sorted_any vv p W hv (jjdw HFP.out) 0 HFP.out);clear HNO hz;obtain⟨pz,hpz⟩:∃ pz,p.1=pz:=⟨_,rfl⟩
 have HPZ:=hidP hpz;rw[hpz]at hzb hz0 HA6 HM2 ⊢;clear hpz;generalize p.2.length=np at *;go_upto_region 10 with(first
  | (go_at_call 48;(with_reducible refine(HAR.out _ _ (HM2.out.later ((Below.refl _ _).alloc (Nat.le_refl _) _) (Nat.le_refl _))).mono ?_);rintro e w3 ⟨vq,rfl,hi,hb⟩;have HM3:Hid (Mach w3 vq (srtM p)):=hi.mach;obtain⟨aq,cq,hvq⟩:=MachFrom.sl (m:=srtM p) hi;obtain⟨s3,_,hb3⟩:=boxed hb (by simp);have K3:=hidP (K2.out.below hb3 K2.out.lt);have HB3:=hidP (HB2.out.trans (hb3.mono HB2.out.size));clear hb hb3 hi HAR))
 subst hvq;have hs1:(srtM p).1=pz:=HPZ.out;have HSR:Hid (∀ x,(∃ f,FstC (srtM p).2 f∧lstA (srtM p).2 f pz.toNat=(x,0))→Q x t 0):=HA6.out;obtain⟨sm,hsm⟩:∃ sm,srtM p=sm:=⟨_,rfl⟩
 rw[hsm]at HFS HM3 HSR hs1 ⊢;clear hsm HP2 HFP HA5 HA6 HM2;obtain⟨zs,ls⟩:=sm
 simp only at HM3 HSR hs1 ⊢;subst hs1;obtain⟨zn,rfl⟩:∃ zn:Nat,zs=(zn:Int):=⟨zs.toNat,by omega⟩
 rw[Int.toNat_natCast]at HSR;have hzl:zn<ls.length:=by have h9:=(jjag HFS.out).1.2;simp only at h9;omega
 have h60:ls.length≤60:=(jjae HFS.out).1;obtain⟨n,hn⟩:∃ n,ls.length=n:=⟨_,rfl⟩
 have HN:=hidP hn;have hA4:=(Below.refl w3.heap.size w3).alloc (Nat.le_refl _) (.cells #[.int .i64 (zn:Int),.slice aq ls.length cq] 24);have K4:=hidP (K3.out.below hA4 K3.out.lt);have S4:=hidP (Blk.made w3 #[.int .i64 (zn:Int),.slice aq ls.length cq] 24);have B4:=hidP (HB3.out.trans (hA4.mono HB3.out.size));have M4:=hidP (HM3.out.later hA4 (Nat.le_refl _))
 have hRS:w.heap.size+1≠w3.heap.size:=by have:=K3.out.lt;omega
 rw[hn]at K4 S4 B4 M4 hA4 ⊢;clear hA4 K3 HB3 HM3 hn;go_upto_region 12 with fail
 generalize w3.alloc (.cells #[.int .i64 (zn:Int),.slice aq n cq] 24)=w4 at *;obtain⟨Sb,hSb⟩:∃ Sb,Sb=w3.heap.size:=⟨_,rfl⟩
 rw[← hSb]at S4 hRS ⊢;clear hSb;have hDr:=(Below.refl w4.heap.size w4).drew;have HT:HeldQy Sb (zn:Int) (.slice aq n cq) w4.drew:=⟨S4.out.cell 0 rfl,S4.out.cell 1 rfl⟩
 have HKO:=hidP (kindsOf_any (zn:Int) ls aq cq w4.drew (by rw[HN.out];exact M4.out.later hDr (Nat.le_refl _)) HFS.out (by omega) (HTB.out.later (B4.out.trans (hDr.mono B4.out.size))))
 have HJO:=hidP (fun W gk K (hW:Below w4.drew.heap.size w4.drew W) (hK:KndF ls K) (hB:Blk W gk (K.map (Value.int .i64)).toArray 3)=>joined_any zn ls aq cq gk K W (by rw[HN.out];exact(M4.out.later hDr (Nat.le_refl _)).later hW (Nat.le_refl _)) HFS.out hzl hK hB);rw[HN.out]at HKO HJO;have K5:Hid (Blk w4.drew (w.heap.size+1) #[.int .i64 0,.slice none 0 0] 24):=K4.out
 have S5:Hid (Blk w4.drew Sb #[.int .i64 (zn:Int),.slice aq n cq] 24):=S4.out;have B5:=hidP (B4.out.trans (hDr.mono B4.out.size));refine jjaf (HeldQy Sb (zn:Int) (.slice aq n cq)) 1000 (by kernel_rfl) ?_
 refine jjaa (v:=?v0_1) aZ0 ?y0_1 HT ?r0_1
 case y0_1=>intro wx hx;obtain⟨h0,h1⟩:=hx;go_simp;try (with_reducible rfl)
 simp only[Act.put,sA,sB,sC];refine jjaa (v:=?v1_2) aZ1 ?y1_2 HT ?r1_2
 case y1_2=>intro wx hx;obtain⟨h0,h1⟩:=hx;go_simp;try (with_reducible rfl)
 simp only[Act.put,sA,sB,sC];refine jjaa (v:=?v4_3) aZ4 ?y4_3 HT ?r4_3
 case y4_3=>intro wx hx;obtain⟨h0,h1⟩:=hx;go_simp;try (with_reducible rfl)
 simp only[Act.put,sA,sB,sC];refine jjab aZ2 (fun K hK=>?_)
 go_simp;with_reducible refine HKO.out.mono ?_
 rintro e w6 ⟨gk,K,rfl,hKF,hKB,_,hb6⟩
 have S6:=hidP (S5.out.below hb6 S5.out.lt);have K6:=hidP (K5.out.below hb6 K5.out.lt);have B6:=hidP (B5.out.trans (hb6.mono B5.out.size));have HJ6:=hidP (HJO.out w6 gk K hb6 hKF hKB);have HT6:HeldQy Sb (zn:Int) (.slice aq n cq) w6:=⟨S6.out.cell 0 rfl,S6.out.cell 1 rfl⟩
 clear hKF hKB hb6 HKO HJO;refine hK _ _ (.inr HT6) ?_
 try simp only[Act.put,sA,sB,sC]
 refine jjab aZ3 (fun K hK=>?_)
 go_simp;with_reducible refine HJ6.out.mono ?_
 rintro e w7 ⟨vx,x,rfl,hx,hO7,hb7⟩
 have S7:=hidP (S6.out.below hb7 S6.out.lt);have K7:=hidP (K6.out.below hb7 K6.out.lt);have B7:=hidP (B6.out.trans (hb7.mono B6.out.size));have HX:=hidP (HSR.out x hx);have HT7:HeldQy Sb (zn:Int) (.slice aq n cq) w7:=⟨S7.out.cell 0 rfl,S7.out.cell 1 rfl⟩
 obtain⟨av,cv,hvx⟩:=hO7.sts.sl
 subst hvx;have O7:=hidP hO7;clear hx hO7 hb7 HJ6;refine hK _ _ (.inr HT7) ?_
 try simp only[Act.put,sA,sB,sC]
 have e0:=K7.out.cell 0 (v:= .int .i64 0) rfl;have e1:=K7.out.cell 1 (v:= .slice none 0 0) rfl;have g0:=K7.out.fz 0;have g1:=K7.out.fz 1;refine jjab aZ5 (fun K hK=>?_)
 go_simp;have S8:Blk ((w7.setCell ⟨w.heap.size+1,0,none⟩ (.int .i64 x.1)).setCell ⟨w.heap.size+1,1,none⟩ (.slice av x.2.length cv)) Sb #[.int .i64 (zn:Int),.slice aq n cq] 24:=(S7.out.setO _ _ (Ne.symm hRS)).setO _ _ (Ne.symm hRS)
 have HT8:HeldQy Sb (zn:Int) (.slice aq n cq) ((w7.setCell ⟨w.heap.size+1,0,none⟩ (.int .i64 x.1)).setCell ⟨w.heap.size+1,1,none⟩ (.slice av x.2.length cv)):=⟨S8.cell 0 rfl,S8.cell 1 rfl⟩
 refine hK _ _ (.inr HT8) ?_
 try simp only[Act.put,sA,sB,sC]
 refine jjaa (v:=?v6_4) aZ6 ?y6_4 HT8 ?r6_4
 case y6_4=>intro wx hx;obtain⟨h0,h1⟩:=hx;go_simp;try (with_reducible rfl)
 simp only[Act.put,sA,sB,sC];refine jjaa (v:=?v7_5) aZ7 ?y7_5 HT8 ?r7_5
 case y7_5=>intro wx hx;obtain⟨h0,h1⟩:=hx;go_simp;try (with_reducible rfl)
 simp only[Act.put,sA,sB,sC];refine jjad (by kernel_rfl) (NoPanic.normal ?_)
 try simp only[Act.put,sA,sB,sC]
 repeat (first | go_skip | go_guarded | go_step | go_upon)
 exact bodyPost_ret (res_mak _ _ (w.heap.size+1) t 0 _ _ ((K7.out.set 0 (.int .i64 x.1)).set 1 (.slice av x.2.length cv)) rfl rfl rfl) rfl ⟨_,x,t,0,rfl,HX.out,.inr ⟨_,rfl,((O7.out.setM K7.out 0 _).setM (K7.out.set 0 _) 1 _).monoB (by have:=B6.out.size;omega)⟩,(B7.out.setCell (p:=⟨w.heap.size+1,0,none⟩) (by show w.heap.size≤w.heap.size+1;omega) _).setCell (p:=⟨w.heap.size+1,1,none⟩) (by show w.heap.size≤w.heap.size+1;omega) _⟩
end Wt
namespace Pl
def NrmAns (m x:Mc)(t e:Int):Prop:=∃ H,(faultM m=0→HopT m H)∧
 ((remE H m≠0∧x=(0,[])∧t=0∧e=remE H m)∨
  (remE H m=0∧(cerA (remR H m)).2≠0∧x=(0,[])∧t=0∧e=(cerA (remR H m)).2)∨
  (remE H m=0∧(cerA (remR H m)).2=0∧SmlAns (cerA (remR H m)).1 x t e))
theorem NrmAns.one {m x x':Mc}{t t' e e':Int}(h:NrmAns m x t e)(k:NrmAns m x' t' e'):x=x'∧t=t'∧e=e':=by
 obtain⟨H,hH,h⟩:=h
 obtain⟨K,hK,k⟩:=k
 obtain⟨e1,e2⟩:=rem_one hH hK
 rw[← e1,← e2]at k;rcases h with⟨h0,h1,h2,h3⟩ | ⟨h0,h4,h1,h2,h3⟩ | ⟨h0,h4,h5⟩<;>rcases k with⟨k0,k1,k2,k3⟩ | ⟨k0,k4,k1,k2,k3⟩ | ⟨k0,k4,k5⟩
 ·exact ⟨h1.trans k1.symm,h2.trans k2.symm,h3.trans k3.symm⟩
 ·exact absurd k0 h0
 ·exact absurd k0 h0
 ·exact absurd h0 k0
 ·exact ⟨h1.trans k1.symm,h2.trans k2.symm,h3.trans k3.symm⟩
 ·exact absurd k4 h4
 ·exact absurd h0 k0
 ·exact absurd h4 k4
 ·exact h5.one k5
def SamAns (a b:Mc)(yes:Bool)(e:Int):Prop:=
 (faultM a≠0∧yes=false∧e=faultM a)∨(faultM a=0∧faultM b≠0∧yes=false∧e=faultM b)∨
 (faultM a=0∧faultM b=0∧∃ x t f,NrmAns a x t f∧((f≠0∧yes=false∧e=f)∨
  (f=0∧∃ y s g,NrmAns b y s g∧((g≠0∧yes=false∧e=g)∨(g=0∧(yes=true↔t=s∧x=y)∧e=0)))))
theorem nil_okC (z:Int):okM (z,[]):=⟨by simp,fun j hj=>absurd hj (by simp)⟩
theorem numS_none {α:Type}[DecidableEq α][Inhabited α](fin:α→Int × Int)(hops:α→List (Hg α)):∀ (k q:Nat) (L:List α) (S:List St) (n:Nat),(numS fin hops k q L S n).2≠0→(numS fin hops k q L S n).1=(0,[]):=by
  intro k;induction k with
  | zero=>intro q L S n h;rfl
  | succ k ih=>
    intro q L S n h;simp only[numS]at h ⊢;split
    · rename_i h1
      rw[if_pos h1]at h;split
      · rfl
      · rename_i h2
        rw[if_neg h2]at h;split
        · rfl
        · rename_i h3
          rw[if_neg h3]at h;exact ih _ _ _ _ h
    · rename_i h1
      rw[if_neg h1]at h;exact absurd rfl h
theorem cerA_ok (m:Mc):okM (cerA m).1:=by
 by_cases fa:faultM m=0
 case neg=>unfold cerA;rw[if_pos fa];exact nil_okC _
 by_cases he:empB m.2=true
 ·unfold cerA;rw[if_neg (fun h=>h fa),if_pos he];exact nil_okC _
 by_cases hz:m.1<0
 ·unfold cerA;rw[if_neg (fun h=>h fa),if_neg he,if_pos hz];exact nil_okC _
 ·by_cases h0:(cerA m).2=0
  ·have e:cerA m=((cerA m).1,0):=by rw[← h0]
   exact jjdw (cer_right fa (by omega) e).1
  ·have:(cerA m).1=(0,[]):=by
    unfold cerA at h0 ⊢;rw[if_neg (fun h=>h fa),if_neg he,if_neg hz]at h0 ⊢;exact numS_none _ _ _ _ _ _ _ h0
   rw[this];exact nil_okC _
end Pl
namespace Wt
open ChangeShapes WideShapes ChangeAt RowKit Pl
theorem res_nrmP (tm:Array Value)(W:World)(R:Nat)(tot ec:Int)(x0 x1:Value)(hB:Blk W R #[x0,x1] 24)(h2:tm.getD 2 undef= .pointer (some ⟨R,0,none⟩))(h3:tm.getD 3 undef= .int .i64 tot)(h4:tm.getD 4 undef= .int .i64 ec):(results Tryz.f8 tm).run Tryz.prog W= .ok (.tuple #[.agg #[x0,x1],.int .i64 tot,.int .i64 ec]) W:=by
 have c0:=hB.cell 0 (v:=x0) rfl;have c1:=hB.cell 1 (v:=x1) rfl;simp only[Array.getD_eq_getD_getElem?]at h2 h3 h4;simp[results,Tryz.results8,go_sem,h2,h3,h4,c0,c1]
theorem jjdj (v:Value)(m:Mc)(w:World)(h:Mach w v m)(hok:okM m)(ht:Tab w):
  Calls Tryz.prog 8 #[v] w fun e w'=>PshOwn (NrmAns m) w e w':=by
 obtain⟨H,hH⟩:∃ H,faultM m=0→HopT m H:=by
  by_cases fa:faultM m=0
  ·obtain ⟨H,hH⟩:=hopT_exists fa
   exact⟨H,fun _=>hH⟩
  ·exact ⟨fun _ _=>0,fun g=>absurd g fa⟩
 obtain⟨R,hR⟩:∃ R,remR H m=R:=⟨_,rfl⟩
 obtain⟨er,her⟩:∃ er,remE H m=er:=⟨_,rfl⟩
 obtain⟨C,ec,hC⟩:∃ C ec,cerA R=(C,ec):=⟨_,_,rfl⟩
 have hokR:okM R:=by rw[← hR];exact remR_ok H m
 have hokC:okM C:=by have:=cerA_ok R;rw[hC]at this;exact this
 have HRM:Hid (∀ W,Below w.heap.size w W→Calls Tryz.prog 21 #[v] W fun e w'=>RatRes R er W e w'):=fun W hW=>by
  have:=removeP_any v m W (h.later hW (Nat.le_refl _)) hok H hH;rw[hR,her]at this;exact this
 have HCM:Hid (∀ W v,Tab W→Mach W v R→Calls Tryz.prog 22 #[v] W fun e w'=>RatRes C ec W e w'):=fun W v hT h1=>by
  have:=certP_any v R W h1 hokR hT;rw[hC]at this;exact this
 have HLM:Hid (∀ W v,Tab W→Mach W v C→Calls Tryz.prog 23 #[v] W fun e w'=>PshOwn (SmlAns C) W e w'):=fun W v hT h1=>leastMk_own v C W h1 hokC hT
 have HA1:Hid (er≠0→NrmAns m (0,[]) 0 er):=fun h0=>⟨H,hH,.inl ⟨by rw[her];exact h0,rfl,rfl,her.symm⟩⟩
 have HA2:Hid (er=0→ec≠0→NrmAns m (0,[]) 0 ec):=fun h0 h1=>⟨H,hH,.inr (.inl ⟨her.trans h0,by rw[hR,hC];exact h1,rfl,rfl,by rw[hR,hC]⟩)⟩
 have HA3:Hid (er=0→ec=0→∀ x t e,SmlAns C x t e→NrmAns m x t e):=fun h0 h1 x t e hx=>⟨H,hH,.inr (.inr ⟨her.trans h0,by rw[hR,hC];exact h1,by rw[hR,hC];exact hx⟩)⟩
 have HTB:=hidP ht;obtain⟨vs,rfl,hS⟩:=h
 obtain⟨a,cap,rfl⟩:=hS.sl
 clear hS hok hR her hC hokR hokC hH ht;generalize NrmAns m=Q at *;obtain⟨z,l⟩:=m
 simp only at HRM ⊢;generalize l.length=nl at *;have HB0:Hid (Below w.heap.size w ((w.alloc (.cells #[.int .i64 z,.slice a nl cap] 24)).alloc (.cells #[.int .i64 0,.slice none 0 0] 24))):=(((Below.refl _ _).alloc (Nat.le_refl _) _).alloc (by simp) _)
 go_enter Tryz.func8,Tryz.ntmps8;go_upto_region 2 with(first
  | (go_at_call 21;(with_reducible refine(HRM.out _ HB0.out).mono ?_);rintro e w1 ⟨v1,rfl,hi,hb⟩;have HM1:=hidP hi;obtain⟨vs1,rfl,hS1⟩:=hi;obtain⟨a1,c1,rfl⟩:=hS1.sl;obtain⟨s1,k0,k1,hb1⟩:=boxedTwo hb (by simp);have HB1:=hidP hb1;have K1:=hidP k1;clear hb hb1 k0 k1 s1 hS1 HRM HB0))
 have K1l:=K1.out.lt;by_cases h0:er=0
 rotate_left
 ·have hrn:(er !=0)=true:=by simpa using h0
  have HAN:=hidP (HA1.out h0);have e0:=K1.out.cell 0 (v:= .int .i64 0) rfl;have e1:=K1.out.cell 1 (v:= .slice none 0 0) rfl;have g0:=K1.out.fz 0;have g1:=K1.out.fz 1;clear h0;go_wp2
  exact bodyPost_ret (res_nrmP _ _ (w.heap.size+1) 0 er _ _ (((K1.out.set 0 (.int .i64 0)).set 1 (.slice none 0 0)).alloc _) rfl rfl rfl) rfl ⟨_,_,_,_,rfl,HAN.out,.inl ⟨rfl,jja5 _⟩,((HB1.out.setCell (p:=⟨w.heap.size+1,0,none⟩) (by show w.heap.size≤w.heap.size+1;omega) _).setCell (p:=⟨w.heap.size+1,1,none⟩) (by show w.heap.size≤w.heap.size+1;omega) _).alloc (by simp[World.setCell];exact HB1.out.size) _⟩
 have HA4:=hidP (HA2.out h0);have HA5:=hidP (HA3.out h0);clear HA1 HA2 HA3;subst h0;have B1:=hidP (HB1.out.alloc HB1.out.size (.cells #[.int .i64 R.1,.slice a1 R.2.length c1] 24));have M1:=hidP (HM1.out.later ((Below.refl _ _).alloc (Nat.le_refl _) (.cells #[.int .i64 R.1,.slice a1 R.2.length c1] 24)) (Nat.le_refl _))
 have K1':=hidP (K1.out.alloc (.cells #[.int .i64 R.1,.slice a1 R.2.length c1] 24));clear HM1 HB1 K1;go_upto_region 5 with(first
  | (go_at_call 22;(with_reducible refine(HCM.out _ _ (HTB.out.later B1.out) M1.out).mono ?_);rintro e w2 ⟨v2,rfl,hi,hb2⟩;have HM2:=hidP hi;obtain⟨vs2,rfl,hS2⟩:=hi;obtain⟨a2,c2,rfl⟩:=hS2.sl;have K2:=hidP (K1'.out.below hb2 K1'.out.lt);have HB2:=hidP (B1.out.trans (hb2.mono B1.out.size));clear hb2 hS2 HCM))
 have K2l:=K2.out.lt;clear K1' B1 M1;by_cases h0:ec=0
 rotate_left
 ·have hrn:(ec !=0)=true:=by simpa using h0
  have HAN:=hidP (HA4.out h0);have e0:=K2.out.cell 0 (v:= .int .i64 0) rfl;have e1:=K2.out.cell 1 (v:= .slice none 0 0) rfl;have g0:=K2.out.fz 0;have g1:=K2.out.fz 1;clear h0;go_wp2
  exact bodyPost_ret (res_nrmP _ _ (w.heap.size+1) 0 ec _ _ (((K2.out.set 0 (.int .i64 0)).set 1 (.slice none 0 0)).alloc _) rfl rfl rfl) rfl ⟨_,_,_,_,rfl,HAN.out,.inl ⟨rfl,jja5 _⟩,((HB2.out.setCell (p:=⟨w.heap.size+1,0,none⟩) (by show w.heap.size≤w.heap.size+1;omega) _).setCell (p:=⟨w.heap.size+1,1,none⟩) (by show w.heap.size≤w.heap.size+1;omega) _).alloc (by simp[World.setCell];exact HB2.out.size) _⟩
 have HA6:=hidP (HA5.out h0);clear HA4 HA5;subst h0;have B2:=hidP (HB2.out.alloc HB2.out.size (.cells #[.int .i64 C.1,.slice a2 C.2.length c2] 24));have M2:=hidP (HM2.out.later ((Below.refl _ _).alloc (Nat.le_refl _) (.cells #[.int .i64 C.1,.slice a2 C.2.length c2] 24)) (Nat.le_refl _));have K2':=hidP (K2.out.alloc (.cells #[.int .i64 C.1,.slice a2 C.2.length c2] 24));clear HM2 HB2 K2
 go_wp2_with (first
  | (go_at_call 23;(with_reducible refine(HLM.out _ _ (HTB.out.later B2.out) M2.out).mono ?_);rintro e w3 ⟨v3,x,t,e3,rfl,hq,hs,hb3⟩;have HX:=hidP (HA6.out x t e3 hq);have HS3:=hidP (hs.mono B2.out.size);obtain⟨vs3,rfl,hS3⟩:=hs.mach;obtain⟨a3,c3,rfl⟩:=hS3.sl;have K3:=hidP (K2'.out.below hb3 K2'.out.lt);have HB3:=hidP (B2.out.trans (hb3.mono B2.out.size));have e0:=K3.out.cell 0 (v:= .int .i64 0) rfl;have e1:=K3.out.cell 1 (v:= .slice none 0 0) rfl;have g0:=K3.out.fz 0;have g1:=K3.out.fz 1;have K3l:=K3.out.lt;clear hb3 hS3 hs hq HLM))
 exact bodyPost_ret (res_nrmP _ _ (w.heap.size+1) t e3 _ _ ((K3.out.set 0 (.int .i64 x.1)).set 1 (.slice a3 x.2.length c3)) rfl rfl rfl) rfl ⟨_,x,t,e3,rfl,HX.out,HS3.out.store K3.out _ _,(HB3.out.setCell (p:=⟨w.heap.size+1,0,none⟩) (by show w.heap.size≤w.heap.size+1;omega) _).setCell (p:=⟨w.heap.size+1,1,none⟩) (by show w.heap.size≤w.heap.size+1;omega) _⟩
end Go.Proofs.YtppkiejhhmahcaaGreatDoor.Wt
