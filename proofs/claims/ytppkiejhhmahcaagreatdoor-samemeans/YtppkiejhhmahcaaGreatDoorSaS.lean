/- Facts, joined. -/
import Derived.Test.YtppkiejhhmahcaaGreatDoorSaR
import Derived.Laws.StructEq
set_option linter.unusedSimpArgs false
set_option linter.unusedVariables false
set_option maxHeartbeats 6400000
set_option maxRecDepth 100000
namespace Go.Proofs.YtppkiejhhmahcaaGreatDoor.Wt
open ChangeShapes WideShapes ChangeAt RowKit Pl
theorem jjb3 (v:Value)(m:Mc)(w:World)(h:Mach w v m)(hok:okM m)(ht:Tab w)(b:Bool)(hb:∀ x t e,NrmAns m x t e→(e==5)=b):
  Calls Tryz.prog 15 #[v] w fun e w'=>e= .returned (.bool b)∧Below w.heap.size w w':=by
 have HW:Hid (∀ W,Below w.heap.size w W→Calls Tryz.prog 8 #[v] W fun e w'=>∃ v' x,∃ t ec:Int,e= .returned (.tuple #[v',.int .i64 t,.int .i64 ec])∧(ec==5)=b∧Mach w' v' x∧Below W.heap.size W w'):=fun W hW=>(jjdj v m W (h.later hW (Nat.le_refl _)) hok (ht.later hW)).mono fun e w' ⟨v',x,t,ec,he,hq,hs,hb'⟩=>⟨v',x,t,ec,he,hb _ _ _ hq,hs.mach,hb'⟩
 obtain⟨z,l⟩:=m
 obtain⟨vs,rfl,hS⟩:=h
 obtain⟨a,cap,rfl⟩:=hS.sl
 clear hS hok ht hb;go_enter Tryz.func15,Tryz.ntmps15;go_wp2_with (first
  | (go_at_call 8;(with_reducible refine(HW.out _ (by go_grown)).mono ?_);rintro e w1 ⟨v1,x,t,ec,rfl,hq,hm,hb1⟩;obtain⟨vs1,rfl,hS1⟩:=hm;obtain⟨a1,c1,rfl⟩:=hS1.sl;clear hS1;have HB1:Hid (Below w.heap.size w w1):=(boxed hb1 (by simp)).2.2;clear hb1))
 go_ret;exact⟨by first | rfl | rw[hq],by first | exact HB1.out | exact HB1.out.alloc HB1.out.size _⟩
end Wt
namespace Pl
theorem arc_ne {p0 p1 p2 p3 r0 r1 r2 r3:Int}(h:¬ ((p0,p1,p2,p3):Ar)=(r0,r1,r2,r3)):(p0==r0)=false∨((p0==r0)=true∧(p1==r1)=false)∨((p0==r0)=true∧(p1==r1)=true∧(p2==r2)=false)∨((p0==r0)=true∧(p1==r1)=true∧(p2==r2)=true∧(p3==r3)=false):=by
 simp only[Prod.mk.injEq]at h;simp only[beq_eq_false_iff_ne,beq_iff_eq,ne_eq];omega
end Pl
namespace Wt
open ChangeShapes WideShapes ChangeAt RowKit Pl
theorem equalArcs_any (v1 v2:Value)(l r:List Ar)(w:World)(h1:Arcs w v1 l)(h2:Arcs w v2 r)(hm:l.length≤maxLen)(hm2:r.length≤maxLen)(b:Bool)(hb:b=true↔l=r):
  Calls Tryz.prog 125 #[v1,v2] w fun e w'=>e= .returned (.bool b)∧∃ q,w'=w.drewN q:=by
 unfold maxLen at hm hm2;obtain⟨a,cap,rfl,hc⟩:=h1.get
 obtain⟨a2,cap2,rfl,hc2⟩:=h2.get
 have HC:=hidP hc;have HC2:=hidP hc2;clear h1 h2 hc hc2;by_cases hlen:l.length=r.length
 ·rw [← hlen]at HC2 ⊢
  have HEX:Hid ((∀ j,j<l.length→el l j=el r j)→b=true):=fun g=>hb.2 (jjc2 hlen g)
  have HNE:Hid (∀ j,j<l.length→¬ el l j=el r j→b=false):=fun j hj g=>Bool.eq_false_iff.2 fun e=>(fun e=>g (by rw[e])) (hb.1 e)
  clear hb hlen;generalize hn:l.length=n at *;clear hn;go_enter Tryz.func125,Tryz.ntmps125;go_wp2;go_loopw [13] (fun i wr=>∃ k q:Nat,k≤n∧i= .int .i64 k∧Hid (∀ j,j<k→el l j=el r j)∧wr=w.drewN q) (fun i _=>n-(intOf i).toNat)
  case atStart=>exact ⟨0,0,Nat.zero_le _,rfl,fun j hj=>absurd hj (by omega),(World.drewN_zero w).symm⟩
  case round=>
   obtain⟨k,q,hk,rfl,HEQ,rfl⟩:=hrel
   by_cases hlt:k<n
   ·obtain ⟨b1,off,rfl,hbl,g0,g1,g2,g3⟩:=HC.out k hlt
    obtain⟨b2,off2,rfl,hbl2,r0,r1,r2,r3⟩:=HC2.out k hlt
    have HNk:=hidP (HNE.out k hlt);by_cases he:el l k=el r k
    ·have HEQ':Hid (∀ j,j<k+1→el l j=el r j):=fun j hj=>by
      rcases Nat.lt_succ_iff_lt_or_eq.1 hj with g | rfl
      ·exact HEQ.out j g
      ·exact he
     rw[← he]at r0 r1 r2 r3;clear HNk he HEQ;generalize el l k=p at *;obtain⟨p0,p1,p2,p3⟩:=p
     go_wp2;go_quiet (fail);go_wp2;go_roundw
     case rel=>exact ⟨k+1,q+nq,by omega,by go_num,HEQ',by first | rfl | rw[World.drewN_drewN]⟩
     case measure=>simp [intOf];omega
    ·obtain rfl:=HNk.out he
     clear HNk HEQ;generalize el l k=p at *;generalize el r k=p' at *;obtain⟨p0,p1,p2,p3⟩:=p
     obtain⟨x0,x1,x2,x3⟩:=p'
     simp only at g0 g1 g2 g3 r0 r1 r2 r3;rcases arc_ne he with d0 | ⟨d0,d1⟩ | ⟨d0,d1,d2⟩ | ⟨d0,d1,d2,d3⟩<;>clear he
     ·go_wp2
      go_quiet (fail);go_wp2;go_ret;exact⟨rfl,q+nq,by first | rfl | rw[World.drewN_drewN]⟩
     ·go_wp2
      go_quiet (fail);go_wp2;go_ret;exact⟨rfl,q+nq,by first | rfl | rw[World.drewN_drewN]⟩
     ·go_wp2
      go_quiet (fail);go_wp2;go_ret;exact⟨rfl,q+nq,by first | rfl | rw[World.drewN_drewN]⟩
     ·go_wp2
      go_quiet (fail);go_wp2;go_ret;exact⟨rfl,q+nq,by first | rfl | rw[World.drewN_drewN]⟩
   ·obtain rfl:k=n:=by omega
    obtain rfl:=HEX.out HEQ.out
    go_wp2;go_ret;exact⟨rfl,q,rfl⟩
 ·obtain rfl:b=false:=Bool.eq_false_iff.2 fun e=>(fun e=>hlen (by rw[e])) (hb.1 e)
  clear hb HC HC2;have hlb:((l.length:Int) !=(r.length:Int))=true:=by simp;omega
  generalize l.length=n at *;generalize r.length=n2 at *;go_enter Tryz.func125,Tryz.ntmps125;go_wp2;go_ret;exact⟨rfl,0,(World.drewN_zero w).symm⟩
theorem jjfc (s t:St)(va vb:Value)(w:World)(h1:Arcs w va s.2)(h2:Arcs w vb t.2)(hm:s.2.length≤maxLen)(hm2:t.2.length≤maxLen)(b:Bool)(hb:b=true↔s=t):
  Calls Tryz.prog 72 #[.agg #[.int .i64 s.1,va],.agg #[.int .i64 t.1,vb]] w fun e w'=>e= .returned (.bool b)∧Below w.heap.size w w':=by
 obtain⟨f,l⟩:=s
 obtain⟨g,r⟩:=t
 simp only at h1 h2 hm hm2 ⊢;by_cases hf:f=g
 ·subst hf
  have HA:=hidP (fun W (hW:Below w.heap.size w W)=>equalArcs_any va vb l r W (h1.later hW (Nat.le_refl _)) (h2.later hW (Nat.le_refl _)) hm hm2 b (hb.trans ⟨fun e=>by rw[Prod.mk.injEq]at e;exact e.2,fun e=>by rw[e]⟩));obtain⟨a1,c1,rfl⟩:=h1.sl
  obtain⟨a2,c2,rfl⟩:=h2.sl
  have HB0:Hid (Below w.heap.size w ((w.alloc (.cells #[.int .i64 f,.slice a1 l.length c1] 45)).alloc (.cells #[.int .i64 f,.slice a2 r.length c2] 45))):=(((Below.refl _ _).alloc (Nat.le_refl _) _).alloc (by simp) _)
  clear h1 h2 hm hm2 hb;generalize l.length=n at *;generalize r.length=n2 at *;go_enter Tryz.func72,Tryz.ntmps72;go_wp2_with (go_at_call 125;(with_reducible refine(HA.out _ (by first | exact HB0.out | exact below_drewN HB0.out _)).mono ?_);rintro e w1 ⟨rfl,q,rfl⟩);go_ret;exact⟨rfl,below_drewN HB0.out _⟩
 ·obtain rfl:b=false:=Bool.eq_false_iff.2 fun e=>hf (by have:=hb.1 e;rw[Prod.mk.injEq]at this;exact this.1)
  have hfb:(f==g)=false:=by simpa using hf
  obtain⟨a1,c1,rfl⟩:=h1.sl
  obtain⟨a2,c2,rfl⟩:=h2.sl
  clear h1 h2 hm hm2 hb hf;generalize l.length=n at *;generalize r.length=n2 at *;go_enter Tryz.func72,Tryz.ntmps72;go_wp2;go_ret;exact⟨rfl,by go_grown⟩
theorem equalFunc_any (v1 v2:Value)(l r:List St)(w:World)(h1:Sts w v1 l)(h2:Sts w v2 r)(hl:l.length≤4398046511104)(hr:r.length≤4398046511104)(HL:∀ j,j<l.length→(el l j).2.length≤maxLen)(HR:∀ j,j<r.length→(el r j).2.length≤maxLen)(b:Bool)(hb:b=true↔l=r):
  Calls Tryz.prog 71 #[v1,v2,.func (.func 72) #[] #[]] w fun e w'=>e= .returned (.bool b)∧Below w.heap.size w w':=by
 obtain⟨a,cap,rfl,hc⟩:=h1.get
 obtain⟨a2,cap2,rfl,hc2⟩:=h2.get
 have HC:=hidP hc;have HC2:=hidP hc2;have HL:=hidP HL;have HR:=hidP HR;clear h1 h2 hc hc2;by_cases hlen:l.length=r.length
 ·rw [← hlen]at HC2 HR ⊢
  have HEX:Hid ((∀ j,j<l.length→el l j=el r j)→b=true):=fun g=>hb.2 (jjc2 hlen g)
  have HNE:Hid (∀ j,j<l.length→¬ el l j=el r j→b=false):=fun j hj g=>Bool.eq_false_iff.2 fun e=>(fun e=>g (by rw[e])) (hb.1 e)
  clear hb hlen hr;generalize hn:l.length=n at *;clear hn;have hnot:∀ (x:Bool) (w:World),(Op.unary .not (.bool x)).run Tryz.prog w= .ok (.bool (!x)) w:=fun _ _=>rfl
  go_enter Tryz.func71,Tryz.ntmps71;go_wp2;go_loopw [17] (fun i wr=>∃ k:Nat,k≤n∧i= .int .i64 k∧Hid (∀ j,j<k→el l j=el r j)∧Below w.heap.size w wr) (fun i _=>n-(intOf i).toNat)
  case atStart=>exact ⟨0,Nat.zero_le _,rfl,fun j hj=>absurd hj (by omega),Below.refl _ _⟩
  case round=>
   obtain⟨k,hk,rfl,HEQ,hb⟩:=hrel
   have HBW:=hidP hb;by_cases hlt:k<n
   ·obtain ⟨b1,off,va,rfl,hbl,g0,g1,gA⟩:=HC.out k hlt
    obtain⟨b2,off2,va2,rfl,hbl2,r0,r1,rA⟩:=HC2.out k hlt
    have HNk:=hidP (HNE.out k hlt);have GA:=hidP (gA.later hb (Nat.le_refl _));have RA:=hidP (rA.later hb (Nat.le_refl _));have g0:=(hb.cell (p:=⟨b1,off+k*2,none⟩) hbl).trans g0;have g1:=(hb.cell (p:=⟨b1,off+k*2+1,none⟩) hbl).trans g1;have r0:=(hb.cell (p:=⟨b2,off2+k*2,none⟩) hbl2).trans r0;have r1:=(hb.cell (p:=⟨b2,off2+k*2+1,none⟩) hbl2).trans r1
    have HES:=hidP (fun W (hW:Below wr.heap.size wr W) (b:Bool) (hb:b=true↔el l k=el r k)=>jjfc (el l k) (el r k) va va2 W (GA.out.later hW (Nat.le_refl _)) (RA.out.later hW (Nat.le_refl _)) (HL.out k hlt) (HR.out k hlt) b hb);have HEQk:Hid (el l k=el r k→∀ j,j<k+1→el l j=el r j):=fun he j hj=>by
     rcases Nat.lt_succ_iff_lt_or_eq.1 hj with g | rfl
     ·exact HEQ.out j g
     ·exact he
    obtain⟨al,cl,hva⟩:=GA.out.sl
    obtain⟨ar,cr,hva2⟩:=RA.out.sl
    subst hva hva2;have HU:Hid (∀ o1 o2,Below wr.heap.size wr ((wr.alloc o1).alloc o2)):=fun o1 o2=>((Below.refl _ _).alloc (Nat.le_refl _) _).alloc (by simp) _
    have l1:b1<wr.heap.size:=Nat.lt_of_lt_of_le hbl hb.size;have l2:b2<wr.heap.size:=Nat.lt_of_lt_of_le hbl2 hb.size;clear gA rA GA RA hb hbl hbl2 HEQ;by_cases he:el l k=el r k
    ·have HE1:=hidP (fun W hW=>HES.out W hW true ⟨fun _=>he,fun _=>rfl⟩)
     have HEQ':=hidP (HEQk.out he);clear HES HNk HEQk he;generalize (el l k).2.length=q at *;generalize (el l k).1=f at *;generalize (el r k).2.length=q2 at *;generalize (el r k).1=f2 at *
     go_wp2_with ((first | go_at_call 72 | go_at_fn 72);(with_reducible refine(HE1.out _ (HU.out _ _)).mono ?_);rintro e w' ⟨rfl,hb'⟩;have HB3:=hidP (HBW.out.trans (((HU.out _ _).trans (hb'.mono (HU.out _ _).size)).mono HBW.out.size));clear hb');go_roundw
     case rel=>exact ⟨k+1,by omega,by go_num,HEQ',HB3.out⟩
     case measure=>simp [intOf];omega
    ·have HE1:=hidP (fun W hW=>HES.out W hW false ⟨fun e=>absurd e (by decide),fun e=>absurd e he⟩)
     obtain rfl:=HNk.out he
     clear HES HNk HEQk he;generalize (el l k).2.length=q at *;generalize (el l k).1=f at *;generalize (el r k).2.length=q2 at *;generalize (el r k).1=f2 at *;go_wp2_with ((first | go_at_call 72 | go_at_fn 72);(with_reducible refine(HE1.out _ (HU.out _ _)).mono ?_);rintro e w' ⟨rfl,hb'⟩;have HB3:=hidP (HBW.out.trans (((HU.out _ _).trans (hb'.mono (HU.out _ _).size)).mono HBW.out.size));clear hb')
     go_ret;exact⟨rfl,HB3.out⟩
   ·obtain rfl:k=n:=by omega
    obtain rfl:=HEX.out HEQ.out
    go_wp2;go_ret;exact⟨rfl,hb⟩
 ·obtain rfl:b=false:=Bool.eq_false_iff.2 fun e=>(fun e=>hlen (by rw[e])) (hb.1 e)
  clear hb HC HC2 HL HR;have hlb:((l.length:Int) !=(r.length:Int))=true:=by simp;omega
  generalize l.length=n at *;generalize r.length=n2 at *;go_enter Tryz.func71,Tryz.ntmps71;go_wp2;go_ret;exact⟨rfl,Below.refl _ _⟩
theorem equal_any (v1 v2:Value)(m k:Mc)(w:World)(h1:Mach w v1 m)(h2:Mach w v2 k)(hok:okM m)(hok2:okM k)(b:Bool)(hb:b=true↔m=k):
  Calls Tryz.prog 29 #[v1,v2] w fun e w'=>e= .returned (.bool b)∧Below w.heap.size w w':=by
 obtain⟨z,l⟩:=m
 obtain⟨y,r⟩:=k
 obtain⟨vs,rfl,hS⟩:=h1
 obtain⟨vs2,rfl,hS2⟩:=h2
 simp only at hS hS2 ⊢;by_cases hz:z=y
 ·subst hz
  have HA:=hidP (fun W (hW:Below w.heap.size w W)=>equalFunc_any vs vs2 l r W (hS.later hW (Nat.le_refl _)) (hS2.later hW (Nat.le_refl _)) (by have:=hok.1;simp only at this;omega) (by have:=hok2.1;simp only at this;omega) (fun j hj=>by have:=hok.2 j hj;unfold maxLen;simp only at this;omega) (fun j hj=>by have:=hok2.2 j hj;unfold maxLen;simp only at this;omega) b (hb.trans ⟨fun e=>by rw[Prod.mk.injEq]at e;exact e.2,fun e=>by rw[e]⟩))
  obtain⟨a1,c1,rfl⟩:=hS.sl
  obtain⟨a2,c2,rfl⟩:=hS2.sl
  have HB0:Hid (Below w.heap.size w ((w.alloc (.cells #[.int .i64 z,.slice a1 l.length c1] 24)).alloc (.cells #[.int .i64 z,.slice a2 r.length c2] 24))):=(((Below.refl _ _).alloc (Nat.le_refl _) _).alloc (by simp) _)
  clear hS hS2 hb hok hok2;generalize l.length=n at *;generalize r.length=n2 at *;go_enter Tryz.func29,Tryz.ntmps29;go_wp2_with (go_at_call 71;(with_reducible refine(HA.out _ HB0.out).mono ?_);rintro e w1 ⟨rfl,hb1⟩;have HB1:=hidP (HB0.out.trans (hb1.mono HB0.out.size));clear hb1);go_ret;exact⟨rfl,HB1.out⟩
 ·obtain rfl:b=false:=Bool.eq_false_iff.2 fun e=>hz (by have:=hb.1 e;rw[Prod.mk.injEq]at this;exact this.1)
  have hzb:(z==y)=false:=by simpa using hz
  obtain⟨a1,c1,rfl⟩:=hS.sl
  obtain⟨a2,c2,rfl⟩:=hS2.sl
  clear hS hS2 hb hok hok2 hz;generalize l.length=n at *;generalize r.length=n2 at *;go_enter Tryz.func29,Tryz.ntmps29;go_wp2;go_ret;exact⟨rfl,by go_grown⟩
end Wt
namespace Pl
theorem sml_okM {m x:Mc}{t e:Int}(h:SmlAns m x t e):okM x:=by
 have z:okM ((0:Int),([]:List St)):=⟨by decide,fun j hj=>absurd hj (by simp)⟩
 rcases h with⟨_,rfl,_⟩ | ⟨_,_,rfl,_⟩ | ⟨_,_,_,rfl,_⟩ | ⟨_,_,_,p,s,g,hP,h⟩
 ·exact z
 ·exact z
 ·exact z
 ·rcases h with⟨_,rfl,_⟩ | ⟨rfl,_,rfl,_⟩ | ⟨rfl,hz,⟨f,hf,hl⟩,_⟩
  ·exact z
  ·exact jjdw (jjc1 (jjb9 hP))
  ·have hr:=jjc1 (jjb9 hP)
   have hzl:p.1.toNat<(srtM p).2.length:=by
    have h9:=(jjag hr).1.2;simp only[srtM,mapM]at h9 ⊢;omega
   exact jjdw (lst_right (z:=p.1) hr hf hzl hl).1
theorem nrm_ok {m x:Mc}{t e:Int}(h:NrmAns m x t e):okM x:=by
 have z:okM ((0:Int),([]:List St)):=⟨by decide,fun j hj=>absurd hj (by simp)⟩
 obtain⟨H,_,h⟩:=h
 rcases h with⟨_,rfl,_⟩ | ⟨_,_,rfl,_⟩ | ⟨_,_,h⟩
 ·exact z
 ·exact z
 ·exact sml_okM h
end Pl
namespace Wt
open ChangeShapes WideShapes ChangeAt RowKit Pl
def SamRes (a b:Mc)(w:World)(e:Ending)(w':World):Prop:=∃ y:Bool,∃ ec:Int,e= .returned (.tuple #[.bool y,.int .i64 ec])∧SamAns a b y ec∧Below w.heap.size w w'
theorem refusedS_any (va vb:Value)(a b:Mc)(w:World)(ha:Mach w va a)(hb:Mach w vb b)(hoka:okM a)(hokb:okM b)(r:Int)(hr:r=if faultM a=0 then faultM b else faultM a):
  Calls Tryz.prog 28 #[va,vb] w fun e w'=>e= .returned (.int .i64 r)∧Below w.heap.size w w':=by
 obtain⟨ra,hra⟩:∃ ra,faultM a=ra:=⟨_,rfl⟩
 obtain⟨rb,hrb⟩:∃ rb,faultM b=rb:=⟨_,rfl⟩
 have HCA:=hidP (fun W (hW:Below w.heap.size w W)=>jjal va a W (ha.later hW (Nat.le_refl _)) hoka ra hra);have HCB:=hidP (fun W (hW:Below w.heap.size w W)=>jjal vb b W (hb.later hW (Nat.le_refl _)) hokb rb hrb);rw[hra,hrb]at hr;obtain⟨vs,rfl,hS⟩:=ha
 obtain⟨aa,ca,rfl⟩:=hS.sl
 obtain⟨vs2,rfl,hS2⟩:=hb
 obtain⟨ab,cb,rfl⟩:=hS2.sl
 clear hS hS2 hoka hokb hra hrb;have HB0:Hid (Below w.heap.size w ((w.alloc (.cells #[.int .i64 a.1,.slice aa a.2.length ca] 24)).alloc (.cells #[.int .i64 b.1,.slice ab b.2.length cb] 24))):=(((Below.refl _ _).alloc (Nat.le_refl _) _).alloc (by simp) _)
 by_cases h0:ra=0
 ·rw [if_pos h0]at hr
  subst h0 hr;go_enter Tryz.func28,Tryz.ntmps28;go_wp2_with (first
   | (go_at_call 45;(with_reducible refine(HCA.out _ HB0.out).mono ?_);rintro e w1 ⟨rfl,hb⟩;obtain⟨s1,k0,k1,hb1⟩:=boxedTwo hb (by simp);have HB1:=hidP hb1;have f0:=k1.cell 0 (v:= .int .i64 b.1) rfl;have f1:=k1.cell 1 (v:= .slice ab b.2.length cb) rfl;clear hb hb1 k0 k1 HCA)
   | (go_at_call 45;(with_reducible refine(HCB.out _ HB1.out).mono ?_);rintro e w2 ⟨rfl,hb⟩;have HB2:=hidP (HB1.out.trans (hb.mono HB1.out.size));clear hb))
  go_ret;exact⟨rfl,HB2.out⟩
 ·rw [if_neg h0]at hr
  subst hr;have hrn:(r !=0)=true:=by simpa using h0
  clear h0;go_enter Tryz.func28,Tryz.ntmps28;go_wp2_with (first
   | (go_at_call 45;(with_reducible refine(HCA.out _ HB0.out).mono ?_);rintro e w1 ⟨rfl,hb⟩;obtain⟨s1,k0,k1,hb1⟩:=boxedTwo hb (by simp);have HB1:=hidP hb1;clear hb hb1 k0 k1 HCA))
  go_ret;exact⟨rfl,HB1.out⟩
theorem sameP_any (va vb:Value)(a b:Mc)(w:World)(ha:Mach w va a)(hb:Mach w vb b)(hoka:okM a)(hokb:okM b)(ht:Tab w):
  Calls Tryz.prog 11 #[va,vb] w fun e w'=>SamRes a b w e w':=by
 have HTB:=hidP ht;clear ht;obtain⟨r,hr⟩:∃ r,r=if faultM a=0 then faultM b else faultM a:=⟨_,rfl⟩
 have HRF:=hidP (fun W (hW:Below w.heap.size w W)=>refusedS_any va vb a b W (ha.later hW (Nat.le_refl _)) (hb.later hW (Nat.le_refl _)) hoka hokb r hr);by_cases h0:r=0
 rotate_left
 ·have HAN:Hid (SamAns a b false r):=by
   by_cases fa:faultM a=0
   ·rw [if_pos fa]at hr
    exact .inr (.inl ⟨fa,by rw[← hr];exact h0,rfl,hr⟩)
   ·rw [if_neg fa]at hr
    exact .inl ⟨fa,rfl,hr⟩
  obtain⟨vs,rfl,hS⟩:=ha
  obtain⟨aa,ca,rfl⟩:=hS.sl
  obtain⟨vs2,rfl,hS2⟩:=hb
  obtain⟨ab,cb,rfl⟩:=hS2.sl
  have hrn:(r !=0)=true:=by simpa using h0
  have HB0:Hid (Below w.heap.size w ((w.alloc (.cells #[.int .i64 a.1,.slice aa a.2.length ca] 24)).alloc (.cells #[.int .i64 b.1,.slice ab b.2.length cb] 24))):=(((Below.refl _ _).alloc (Nat.le_refl _) _).alloc (by simp) _)
  have HR:Hid (∀ (e:Ending) (w':World),e= .returned (.tuple #[.bool false,.int .i64 r])→Below w.heap.size w w'→SamRes a b w e w'):=fun e w' h1 h3=>⟨false,r,h1,HAN.out,h3⟩
  clear hS hS2 hoka hokb hr h0 HAN;go_enter Tryz.func11,Tryz.ntmps11;go_wp2_with (first
   | (go_at_call 28;(with_reducible refine(HRF.out _ HB0.out).mono ?_);rintro e w1 ⟨rfl,hb⟩;obtain⟨s1,k0,k1,hb1⟩:=boxedTwo hb (by simp);have HB1:=hidP hb1;clear hb hb1 k0 k1))
  go_ret2;exact HR.out _ _ rfl HB1.out
 subst h0;obtain⟨fa,fb⟩:faultM a=0∧faultM b=0:=by
  by_cases fa:faultM a=0
  ·rw [if_pos fa]at hr;exact⟨fa,hr.symm⟩
  ·rw [if_neg fa]at hr;exact absurd hr.symm fa
 clear hr;have HNA:Hid (∀ W v,Tab W→Mach W v a→Calls Tryz.prog 8 #[v] W fun e w'=>PshRes (NrmAns a) W e w'):=fun W v hT h1=>(jjdj v a W h1 hoka hT).mono fun _ _ h=>h.res
 have HNB:Hid (∀ W v,Tab W→Mach W v b→Calls Tryz.prog 8 #[v] W fun e w'=>PshRes (NrmAns b) W e w'):=fun W v hT h1=>(jjdj v b W h1 hokb hT).mono fun _ _ h=>h.res
 have HKA:Hid (∀ x t e,NrmAns a x t e→okM x):=fun x t e h=>nrm_ok h
 have HKB:Hid (∀ x t e,NrmAns b x t e→okM x):=fun x t e h=>nrm_ok h
 have HEQ:Hid (∀ W v1 v2 x y (q:Bool),okM x→okM y→(q=true↔x=y)→Mach W v1 x→Mach W v2 y→Calls Tryz.prog 29 #[v1,v2] W fun e w'=>e= .returned (.bool q)∧Below W.heap.size W w'):=fun W v1 v2 x y q h1 h2 h3 h4 h5=>equal_any v1 v2 x y W h4 h5 h1 h2 q h3
 have HA1:Hid (∀ x t e,NrmAns a x t e→e≠0→SamAns a b false e):=fun x t e h h0=> .inr (.inr ⟨fa,fb,x,t,e,h,.inl ⟨h0,rfl,rfl⟩⟩)
 have HA2:Hid (∀ x t,NrmAns a x t 0→∀ y s e,NrmAns b y s e→e≠0→SamAns a b false e):=fun x t h y s e k h0=> .inr (.inr ⟨fa,fb,x,t,0,h,.inr ⟨rfl,y,s,e,k,.inl ⟨h0,rfl,rfl⟩⟩⟩)
 have HA3:Hid (∀ x t,NrmAns a x t 0→∀ y s,NrmAns b y s 0→∀ q:Bool,(q=true↔t=s∧x=y)→SamAns a b q 0):=fun x t h y s k q hq=> .inr (.inr ⟨fa,fb,x,t,0,h,.inr ⟨rfl,y,s,0,k,.inr ⟨rfl,hq,rfl⟩⟩⟩)
 have HIA:Hid (Mach w va a):=ha;have HIB:Hid (Mach w vb b):=hb;obtain⟨vs,rfl,hS⟩:=ha
 obtain⟨aa,ca,rfl⟩:=hS.sl
 obtain⟨vs2,rfl,hS2⟩:=hb
 obtain⟨ab,cb,rfl⟩:=hS2.sl
 clear hS hS2 hoka hokb fa fb;obtain⟨Q,hQ⟩:∃ Q,SamAns a b=Q:=⟨_,rfl⟩
 have HR:Hid (∀ (e:Ending) (w':World) (y:Bool) (ec:Int),e= .returned (.tuple #[.bool y,.int .i64 ec])→Q y ec→Below w.heap.size w w'→SamRes a b w e w'):=fun e w' y ec h1 h2 h3=>⟨y,ec,h1,by rw[hQ];exact h2,h3⟩
 rw[hQ]at HA1 HA2 HA3;clear hQ;have HB0:Hid (Below w.heap.size w ((w.alloc (.cells #[.int .i64 a.1,.slice aa a.2.length ca] 24)).alloc (.cells #[.int .i64 b.1,.slice ab b.2.length cb] 24))):=(((Below.refl _ _).alloc (Nat.le_refl _) _).alloc (by simp) _)
 go_enter Tryz.func11,Tryz.ntmps11;go_upto_region 5 with(first
  | (go_at_call 28;(with_reducible refine(HRF.out _ HB0.out).mono ?_);rintro e w1 ⟨rfl,hb⟩;obtain⟨s1,k0,k1,hb1⟩:=boxedTwo hb (by simp);have HB1:=hidP hb1;have K1:=hidP k1;have f0:=k0.cell 0 (v:= .int .i64 a.1) rfl;have f1:=k0.cell 1 (v:= .slice aa a.2.length ca) rfl;clear hb hb1 k0 k1 s1 HRF HB0)
  | (go_at_call 8;(with_reducible refine(HNA.out _ _ (HTB.out.later HB1.out) (HIA.out.later HB1.out (Nat.le_refl _))).mono ?_);rintro e w2 ⟨v2,x,t,e2,rfl,hq,hm,hb2⟩;have HX:=hidP hq;have HKX:=hidP (HKA.out _ _ _ hq);have HM2:=hidP hm;obtain⟨vsx,rfl,hSx⟩:=hm;obtain⟨ax,cx,rfl⟩:=hSx.sl;have K2:=hidP (K1.out.below hb2 K1.out.lt);have HB2:=hidP (HB1.out.trans (hb2.mono HB1.out.size));have K2l:=K2.out.lt;have f0:=K2.out.cell 0 (v:= .int .i64 b.1) rfl;have f1:=K2.out.cell 1 (v:= .slice ab b.2.length cb) rfl;clear hq hb2 hSx HNA HKA))
 by_cases h0:e2=0
 rotate_left
 ·have hrn:(e2 !=0)=true:=by simpa using h0
  have HAN:=hidP (HA1.out _ _ _ HX.out h0);clear h0;go_wp2;go_ret2;exact HR.out _ _ false e2 rfl HAN.out (HB2.out.alloc HB2.out.size _)
 subst h0;have B2:=hidP (HB2.out.alloc HB2.out.size (.cells #[.int .i64 x.1,.slice ax x.2.length cx] 24));have X2:=hidP (Blk.made w2 #[.int .i64 x.1,.slice ax x.2.length cx] 24);have M2:=hidP (HM2.out.later ((Below.refl _ _).alloc (Nat.le_refl _) (.cells #[.int .i64 x.1,.slice ax x.2.length cx] 24)) (Nat.le_refl _));clear HA1 HM2 HB2 K1;go_upto_region 8 with(first
  | (go_at_call 8;(with_reducible refine(HNB.out _ _ (HTB.out.later B2.out) (HIB.out.later B2.out (Nat.le_refl _))).mono ?_);rintro e w3 ⟨v3,y,s,e3,rfl,hq,hm,hb3⟩;have HY:=hidP hq;have HKY:=hidP (HKB.out _ _ _ hq);have HM3:=hidP hm;obtain⟨vsy,rfl,hSy⟩:=hm;obtain⟨ay,cy,rfl⟩:=hSy.sl;have X3:=hidP (X2.out.below hb3 X2.out.lt);have M3:=hidP (M2.out.later hb3 (Nat.le_refl _));have HB3:=hidP (B2.out.trans (hb3.mono B2.out.size));have X3l:=X3.out.lt;clear hq hb3 hSy HNB HKB))
 by_cases h0:e3=0
 rotate_left
 ·have hrn:(e3 !=0)=true:=by simpa using h0
  have HAN:=hidP (HA2.out _ _ HX.out _ _ _ HY.out h0);clear h0;go_wp2;go_ret2;exact HR.out _ _ false e3 rfl HAN.out (HB3.out.alloc HB3.out.size _)
 subst h0;have B3:=hidP (HB3.out.alloc HB3.out.size (.cells #[.int .i64 y.1,.slice ay y.2.length cy] 24));have N3:=hidP (HM3.out.later ((Below.refl _ _).alloc (Nat.le_refl _) (.cells #[.int .i64 y.1,.slice ay y.2.length cy] 24)) (Nat.le_refl _));have L3:=hidP (M3.out.later ((Below.refl _ _).alloc (Nat.le_refl _) (.cells #[.int .i64 y.1,.slice ay y.2.length cy] 24)) (Nat.le_refl _))
 have q0:=X3.out.cell 0 (v:= .int .i64 x.1) rfl;have q1:=X3.out.cell 1 (v:= .slice ax x.2.length cx) rfl;have HA4:=hidP (HA3.out _ _ HX.out _ _ HY.out);clear HA2 HA3 HX HY HM3 M3 HB3 X2 M2 B2;by_cases ht:t=s
 ·subst ht
  have htb:(t==t)=true:=by simp
  by_cases hxy:x=y
  ·have HAN:=hidP (HA4.out true ⟨fun _=>⟨rfl,hxy⟩,fun _=>rfl⟩)
   have HE:=hidP (fun W v1 v2 h4 h5=>HEQ.out W v1 v2 x y true HKX.out HKY.out ⟨fun _=>hxy,fun _=>rfl⟩ h4 h5);clear hxy HEQ HA4;go_wp2_with (first
    | (go_at_call 29;(with_reducible refine(HE.out _ _ _ L3.out N3.out).mono ?_);rintro e w4 ⟨rfl,hb4⟩;have HB4:=hidP (B3.out.trans (hb4.mono B3.out.size));clear hb4))
   go_ret2;exact HR.out _ _ true 0 rfl HAN.out HB4.out
  ·have HAN:=hidP (HA4.out false ⟨fun e=>absurd e (by decide),fun e=>absurd e.2 hxy⟩)
   have HE:=hidP (fun W v1 v2 h4 h5=>HEQ.out W v1 v2 x y false HKX.out HKY.out ⟨fun e=>absurd e (by decide),fun e=>absurd e hxy⟩ h4 h5);clear hxy HEQ HA4;go_wp2_with (first
    | (go_at_call 29;(with_reducible refine(HE.out _ _ _ L3.out N3.out).mono ?_);rintro e w4 ⟨rfl,hb4⟩;have HB4:=hidP (B3.out.trans (hb4.mono B3.out.size));clear hb4))
   go_ret2;exact HR.out _ _ false 0 rfl HAN.out HB4.out
 ·have htb:(t==s)=false:=by simpa using ht
  have HAN:=hidP (HA4.out false ⟨fun e=>absurd e (by decide),fun e=>absurd e.1 ht⟩);clear ht HA4 HEQ;go_wp2;go_ret2;exact HR.out _ _ false 0 rfl HAN.out B3.out
end Wt
namespace Pl
theorem way_sub {l l':List St}(h:∀ q a,a ∈ (el l q).2→a ∈ (el l' q).2){q p c:Nat}{u v:List Int}(hw:Way l q u v p c):Way l' q u v p c:=by
 induction hw with
 | nil=>exact .nil
 | snoc hw ha ht ih=>exact ih.snoc (h _ _ ha) ht
theorem costs_same {m m':Mc}(hz:m.1=m'.1)(hl:m.2.length=m'.2.length)(hf:∀ q,q<m.2.length→(el m.2 q).1=(el m'.2 q).1)(ha:∀ q a,a ∈ (el m.2 q).2↔a ∈ (el m'.2 q).2)(x y:List Int)(c:Nat):Costs m x y c↔Costs m' x y c:=by
 constructor
 ·rintro ⟨h0,p,d,hw,hp,hn,rfl⟩
  rw[hz]at h0 hw;exact⟨h0,p,d,way_sub (fun q a=>(ha q a).1) hw,by omega,by rw[← hf p hp];exact hn,by rw[hf p hp]⟩
 ·rintro ⟨h0,p,d,hw,hp,hn,rfl⟩
  rw[← hz]at h0 hw;have hp':p<m.2.length:=by omega
  exact⟨h0,p,d,way_sub (fun q a=>(ha q a).2) hw,hp',by rw[hf p hp'];exact hn,by rw[hf p hp']⟩
theorem mapM_el {f:List Ar→List Ar}{m:Mc}{q:Nat}(h:q<m.2.length):el (mapM f m).2 q=((el m.2 q).1,f (el m.2 q).2):=jja2 h _
theorem mapM_len (f:List Ar→List Ar)(m:Mc):(mapM f m).2.length=m.2.length:=by simp[mapM]
theorem mapM_mem {f:List Ar→List Ar}(hf:∀ l a,a ∈ f l→a ∈ l){m:Mc}(q:Nat)(a:Ar)(h:a ∈ (el (mapM f m).2 q).2):a ∈ (el m.2 q).2:=by
 have hq:=el_in h;rw[mapM_len]at hq;rw[mapM_el hq]at h;exact hf _ a h
theorem costs_sort (s:Bool)(m:Mc)(x y:List Int)(c:Nat):Costs (mapM (sortS s) m) x y c↔Costs m x y c:=by
 refine costs_same (m:=mapM (sortS s) m) (m':=m) rfl (mapM_len _ _) (fun q hq=>by rw[mapM_el (by rwa [mapM_len]at hq)]) (fun q a=>⟨mapM_mem (fun l a h=>(jjbh s l).mem_iff.1 h) q a,fun h=>?_⟩) x y c
 rw[mapM_el (el_in h)];exact(jjbh s _).mem_iff.2 h
section
variable {z:Int} {l:List St} {aa bs:List Bool}
theorem kept_nat {ks:List Int}(hks:ks=keptL aa bs l.length){i:Nat}(hi:i<ks.length):∃ q:Nat,el ks i=(q:Int)∧q<l.length∧el aa q=true∧el bs q=true:=by
 have:=jjac hi;rw[hks]at this;obtain⟨q,h1,h2,h3,h4⟩:=jjbo this
 exact⟨q,by rw[hks];exact h1,h2,h3,h4⟩
theorem trim_way {ks:List Int}(hks:ks=keptL aa bs l.length){i j c:Nat}{u v:List Int}(hi:i<ks.length)(h:Way (ks.map (trimS l ks)) i u v j c):j<ks.length∧Way l (el ks i).toNat u v (el ks j).toNat c:=by
  have hp:ks.Pairwise (· < ·):=by rw[hks];exact jja4 _ _ _
  induction h with
  | nil=>exact ⟨hi,.nil⟩
  | snoc h ha ht ih=>
    rename_i u v p c a t
    obtain⟨hpl,hw⟩:=ih
    rw[jjda hpl]at ha;obtain⟨d,hd,rfl,h0⟩:=jjfv ha
    have hm:=(jjb8 hp).1 h0;obtain⟨k,hk,he,hpk⟩:=jjbn hp hm
    have hkt:k=t:=by
      have:placeI ks d.2.2.2=(t:Int):=ht;omega
    subst hkt;obtain⟨q,hq,_⟩:=kept_nat hks hk
    exact⟨hk,hw.snoc hd (by rw[he]at hq;rw[he,hq];rfl)⟩
theorem way_trim (hf:faultM (z,l)=0)(hA:Least (AheadC z l) l.length aa)(hB:Least (BackC l) l.length bs){ks:List Int}(hks:ks=keptL aa bs l.length){q p c:Nat}{u v:List Int}(hq:q<l.length)(ha:el aa q=true)(h:Way l q u v p c):
    (p<l.length∧el aa p=true)∧(el bs p=true→el bs q=true∧∀ i j:Nat,placeI ks (q:Int)=(i:Int)→placeI ks (p:Int)=(j:Int)→Way (ks.map (trimS l ks)) i u v j c):=by
  have hp:ks.Pairwise (· < ·):=by rw[hks];exact jja4 _ _ _
  induction h with
  | nil=>
    refine⟨⟨hq,ha⟩,fun hb=>⟨hb,fun i j hi hj=>?_⟩⟩
    have hij:i=j:=by omega
    rw[hij];exact .nil
  | snoc h hm ht ih=>
    rename_i u v p c a t
    obtain⟨⟨hpl,hpa⟩,ih⟩:=ih
    obtain⟨t',e1,e2⟩:=jjdi hf hpl hm
    obtain rfl:t=t':=by omega
    have hta:el aa t=true:=by
      have:=hA.2.1.2 p hpl hpa a hm;rwa [ht,Int.toNat_natCast]at this
    refine⟨⟨e2,hta⟩,fun hb=>?_⟩
    have hpb:el bs p=true:=hB.2.1.2 p hpl a hm (by rw[ht,Int.toNat_natCast];exact hb);obtain⟨hqb,hw⟩:=ih hpb
    refine⟨hqb,fun i j hi hj=>?_⟩
    have hpm:(p:Int) ∈ ks:=by rw[hks];exact keptL_iff.2 ⟨hpl,hpa,hpb⟩
    obtain⟨k,hk,hek,hpk⟩:=jjbn hp hpm
    have h1:=hw i k hi hpk;have h2:turnA ks a ∈ (el (ks.map (trimS l ks)) k).2:=by
      rw[jjda hk,hek,Int.toNat_natCast];exact trimA_in hm (by rw[ht,hj];omega)
    have h3:=h1.snoc h2 (t:=j) (by unfold turnA;simp only;rw[ht,hj]);exact h3
theorem costs_trim (hf:faultM (z,l)=0)(hA:Least (AheadC z l) l.length aa)(hB:Least (BackC l) l.length bs)(x y:List Int)(c:Nat):Costs (trimM z l (keptL aa bs l.length)) x y c↔Costs (z,l) x y c:=by
 obtain⟨ks,hks⟩:∃ ks,ks=keptL aa bs l.length:=⟨_,rfl⟩
 have hp:ks.Pairwise (· < ·):=by rw[hks];exact jja4 _ _ _
 rw[← hks];have hlen:(trimM z l ks).2.length=ks.length:=by simp[trimM]
 constructor
 ·rintro ⟨h0,p,d,hw,hpl,hn,rfl⟩
  have h0':0≤placeI ks z:=h0;obtain⟨k,hk,hek,hpk⟩:=jjbn hp ((jjb8 hp).1 h0')
  have hw':Way (ks.map (trimS l ks)) k x y p d:=by
   have e:(trimM z l ks).1.toNat=k:=by show(placeI ks z).toNat=k;rw[hpk];rfl
   rw[e]at hw;exact hw
  obtain⟨hpk',hwl⟩:=trim_way hks hk hw'
  obtain⟨q,hq1,hq2,_⟩:=kept_nat hks hpk'
  obtain⟨q0,hz1,hz2,_⟩:=kept_nat hks hk
  have hfin:(el (trimM z l ks).2 p).1=(el l (el ks p).toNat).1:=by
   show(el (ks.map (trimS l ks)) p).1=_;rw[jjda hpk']
  rw[hek]at hwl hz1;refine⟨by show 0≤z;omega,(el ks p).toNat,d,hwl,by rw[hq1];exact hq2,?_,?_⟩
  ·rw [← hfin];exact hn
  ·rw [hfin]
 ·rintro ⟨h0,p,d,hw,hpl,hn,rfl⟩
  simp only at h0 hw hpl hn ⊢;have hz:=(jjag hf).1;simp only at hz;have hzl:z.toNat<l.length:=by omega
  have hza:el aa z.toNat=true:=hA.2.1.1 z.toNat hzl (by omega);obtain⟨⟨_,hpa⟩,hb⟩:=way_trim hf hA hB hks hzl hza hw
  have hpb:el bs p=true:=hB.2.1.1 p hpl hn;obtain⟨hzb,hway⟩:=hb hpb
  have hzt:((z.toNat:Nat):Int)=z:=by omega
  have hzm:(z.toNat:Int) ∈ ks:=by rw[hks];exact keptL_iff.2 ⟨hzl,hza,hzb⟩
  have hpm:(p:Int) ∈ ks:=by rw[hks];exact keptL_iff.2 ⟨hpl,hpa,hpb⟩
  obtain⟨k,hk,hek,hpk⟩:=jjbn hp hzm
  obtain⟨j,hj,hej,hpj⟩:=jjbn hp hpm
  have h1:=hway k j hpk hpj;rw[hzt]at hpk;have hfin:(el (trimM z l ks).2 j).1=(el l p).1:=by
   show(el (ks.map (trimS l ks)) j).1=_;rw[jjda hj,hej,Int.toNat_natCast]
  refine⟨by show 0≤placeI ks z;omega,j,d,?_,by rw[hlen];exact hj,by rw[hfin];exact hn,by rw[hfin]⟩
  show Way (ks.map (trimS l ks)) (placeI ks z).toNat x y j d;rw[hpk];exact h1
theorem trim_cheap {ks:List Int}(hks:ks=keptL aa bs l.length)(h:CheapL l):CheapL (trimM z l ks).2:=fun s hs=>by
 simp only[trimM,List.mem_map]at hs;obtain⟨x,hx,rfl⟩:=hs
 rw[hks]at hx;obtain⟨q,rfl,hq,_⟩:=jjbo hx
 unfold trimS;rw[Int.toNat_natCast];refine⟨(h _ (jjac hq)).1,fun a ha=>?_⟩
 obtain⟨d,hd,rfl,_⟩:=jjfv ha
 exact(h _ (jjac hq)).2 d hd
end
end Go.Proofs.YtppkiejhhmahcaaGreatDoor.Pl
