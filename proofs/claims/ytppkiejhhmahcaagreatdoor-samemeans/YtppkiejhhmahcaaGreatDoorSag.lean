/- Facts, joined. -/
import Derived.Test.YtppkiejhhmahcaaGreatDoorSaf
import Derived.Maps.Own
import Derived.Maps.Views
import Derived.WideKeyEntry
import Derived.DeepKeys3
set_option linter.unusedSimpArgs false
set_option linter.unusedVariables false
set_option maxHeartbeats 1600000
set_option maxRecDepth 100000
namespace Go.Proofs.YtppkiejhhmahcaaGreatDoor.Pl
abbrev Pt :=Nat × Nat × Nat
def wyV (p:Pt)(c:Nat):Ar:=((p.1:Int),(p.2.1:Int),(p.2.2:Int),(c:Int))
theorem wyV_one {p q:Pt}{c d:Nat}(h:wyV p c=wyV q d):p=q∧c=d:=by
 obtain⟨a,b,e⟩:=p
 obtain⟨a',b',e'⟩:=q
 simp only[wyV,Prod.mk.injEq]at h;obtain⟨h1,h2,h3,h4⟩:=h
 refine⟨?_,by omega⟩
 simp only[Prod.mk.injEq];omega
def ToP (l:List St)(x y:List Int)(q:Pt)(i:Nat)(p:Pt):Prop:=
 i<(el l q.1).2.length∧(el (el l q.1).2 i).2.2.2=(p.1:Int)∧fitN x q.2.1 (el (el l q.1).2 i).1=some p.2.1∧fitN y q.2.2 (el (el l q.1).2 i).2.1=some p.2.2
def wtP (l:List St)(q:Pt)(i:Nat):Nat:=(el (el l q.1).2 i).2.2.1.toNat
theorem ToP.one {l:List St}{x y:List Int}{q:Pt}{i:Nat}{p p':Pt}(h:ToP l x y q i p)(k:ToP l x y q i p'):p=p':=by
 obtain⟨a,b,e⟩:=p
 obtain⟨a',b',e'⟩:=p'
 obtain⟨_,h1,h2,h3⟩:=h
 obtain⟨_,k1,k2,k3⟩:=k
 simp only at h1 h2 h3 k1 k2 k3;rw[h2]at k2;rw[h3]at k3;injection k2 with k2
 injection k3 with k3
 simp only[Prod.mk.injEq];omega
inductive Rch (l:List St)(x y:List Int)(z:Nat):Pt→Nat→Prop
 | nil:Rch l x y z (z,0,0) 0
 | step {q p:Pt} {c i:Nat} (h:Rch l x y z q c) (hi:i<(el l q.1).2.length) (e:ToP l x y q i p):Rch l x y z p (c+wtP l q i)
def InP (l:List St)(x y:List Int)(p:Pt):Prop:=p.1<l.length∧p.2.1≤x.length∧p.2.2≤y.length
def ToL (l:List St):Prop:=∀ q,q<l.length→∀ a ∈ (el l q).2,(∃ t:Nat,a.2.2.2=(t:Int)∧t<l.length)∧0≤a.2.2.1∧a.2.2.1≤1000000000
theorem ToP.inside {l:List St}{x y:List Int}(hto:ToL l){q p:Pt}{i:Nat}(hq:InP l x y q)(e:ToP l x y q i p):InP l x y p∧wtP l q i≤1000000000:=by
 obtain⟨hi,h1,h2,h3⟩:=e
 obtain⟨⟨t,e1,e2⟩,_,e3⟩:=hto _ hq.1 _ (jjac hi)
 rw[h1]at e1;refine⟨⟨by omega,jjee h2 hq.2.1,jjee h3 hq.2.2⟩,?_⟩
 unfold wtP;omega
theorem Rch.inside {l:List St}{x y:List Int}{z:Nat}(hto:ToL l)(hz:z<l.length){p:Pt}{c:Nat}(h:Rch l x y z p c):InP l x y p:=by
 induction h with
 | nil=>exact ⟨hz,Nat.zero_le _,Nat.zero_le _⟩
 | step h hi e ih=>exact (e.inside hto ih).1
theorem Rch.way {l:List St}{x y:List Int}{z:Nat}(hto:ToL l)(hz:z<l.length){p:Pt}{c:Nat}(h:Rch l x y z p c):Way l z (x.take p.2.1) (y.take p.2.2) p.1 c:=by
  induction h with
  | nil=>simpa using Way.nil
  | step h hi e ih=>
    obtain⟨_,h1,h2,h3⟩:=e
    rw[jjdy h2,jjdy h3];exact ih.snoc (jjac hi) h1
theorem way_rch {l:List St}{x y:List Int}{z q c:Nat}{u v:List Int}(h:Way l z u v q c):
    ∀ i j,i≤x.length→j≤y.length→u=x.take i→v=y.take j→Rch l x y z (q,i,j) c:=by
  induction h with
  | nil=>
    intro i j hi hj hu hv;have h1:i=0:=by
      have:=congrArg List.length hu;simp at this;omega
    have h2:j=0:=by
      have:=congrArg List.length hv;simp at this;omega
    subst h1;subst h2;exact .nil
  | snoc h ha ht ih=>
    intro i j hi hj hu hv;obtain⟨i0,hi0,hu0,f1⟩:=jjdz hi hu
    obtain⟨j0,hj0,hv0,f2⟩:=jjdz hj hv
    obtain⟨k,hk,rfl⟩:=jja1 ha
    exact Rch.step (q:=(_,i0,j0)) (i:=k) (ih i0 j0 hi0 hj0 hu0 hv0) hk ⟨hk,ht,f1,f2⟩
theorem rch_iff {l:List St}{x y:List Int}{z q c:Nat}(hto:ToL l)(hz:z<l.length):Rch l x y z (q,x.length,y.length) c↔Way l z x y q c:=
 ⟨fun h=>by simpa using h.way hto hz,fun h=>way_rch h _ _ (Nat.le_refl _) (Nat.le_refl _) (by simp) (by simp)⟩
structure Dij (l:List St)(x y:List Int)(z:Nat)(ds:List (Pt × Nat))(H:List Ar)(O:Pt→Nat→Prop)(b:Nat):Prop where
 nd:(ds.map Prod.fst).Nodup
 heap:∀ h ∈ H,∃ p c,h=wyV p c∧Rch l x y z p c∧b≤c∧c≤ds.length*1000000000
 done:∀ p c,(p,c) ∈ ds→Rch l x y z p c∧c≤b∧c+1000000000≤ds.length*1000000000
 clos:∀ q c,(q,c) ∈ ds→∀ i p,ToP l x y q i p→¬ O q i→(∃ e,(p,e) ∈ ds∧e≤c+wtP l q i)∨wyV p (c+wtP l q i) ∈ H
 beg:((z,0,0),0) ∈ ds∨wyV (z,0,0) 0 ∈ H
theorem jjff {ds:List (Pt × Nat)}(h:(ds.map Prod.fst).Nodup){p:Pt}{c d:Nat}(h1:(p,c) ∈ ds)(h2:(p,d) ∈ ds):c=d:=by
  induction ds with
  | nil=>cases h1
  | cons a ds ih=>
    rw[List.map_cons,List.nodup_cons]at h;rcases List.mem_cons.1 h1 with e1 | e1<;>rcases List.mem_cons.1 h2 with e2 | e2
    · rw[← e1]at e2;injection e2 with _ e2;exact e2.symm
    · exact absurd (List.mem_map.2 ⟨_,e2,by rw[← e1]⟩) h.1
    · exact absurd (List.mem_map.2 ⟨_,e1,by rw[← e2]⟩) h.1
    · exact ih h.2 e1 e2
theorem Dij.start {l:List St}{x y:List Int}{z:Nat}(O:Pt→Nat→Prop):Dij l x y z [] [wyV (z,0,0) 0] O 0:=
 ⟨List.nodup_nil,fun h hh=>⟨(z,0,0),0,by simpa using hh,.nil,Nat.le_refl _,by simp⟩,fun p c h=>(by cases h),fun q c h=>(by cases h),.inr (by simp)⟩
theorem Dij.old {l:List St}{x y:List Int}{z:Nat}{ds:List (Pt × Nat)}{H H':List Ar}{b:Nat}(h:Dij l x y z ds H (fun _ _=>False) b){p:Pt}{c d:Nat}(hp:(wyV p c::H').Perm H)(hd:(p,d) ∈ ds):
  Dij l x y z ds H' (fun _ _=>False) b:=by
 have hsub:∀ a ∈ H',a ∈ H:=fun a ha=>hp.mem_iff.1 (List.mem_cons_of_mem _ ha)
 obtain⟨p',c',e0,_,hbc,_⟩:=h.heap (wyV p c) (hp.mem_iff.1 List.mem_cons_self)
 obtain⟨rfl,rfl⟩:=wyV_one e0
 have hdc:d≤c:=Nat.le_trans (h.done p d hd).2.1 hbc;have split:∀ {q:Pt} {e:Nat},wyV q e ∈ H→(q=p∧e=c)∨wyV q e ∈ H':=fun {q e} hq=>by
  rcases List.mem_cons.1 (hp.mem_iff.2 hq)with g | g
  ·exact .inl (wyV_one g)
  ·exact .inr g
 refine⟨h.nd,fun a ha=>h.heap a (hsub a ha),h.done,fun q e hq i p' ht hO=>?_,?_⟩
 ·rcases h.clos q e hq i p' ht hO with g | g
  ·exact .inl g
  ·rcases split g with⟨rfl,g2⟩ | g
   ·exact .inl ⟨d,hd,by omega⟩
   ·exact .inr g
 ·rcases h.beg with g | g
  ·exact .inl g
  ·rcases split g with⟨g1,g2⟩ | g
   ·rw [← g1]at hd
    obtain rfl:d=0:=by omega
    exact .inl hd
   ·exact .inr g
theorem Dij.new {l:List St}{x y:List Int}{z:Nat}{ds:List (Pt × Nat)}{H H':List Ar}{b:Nat}(h:Dij l x y z ds H (fun _ _=>False) b){p:Pt}{c:Nat}(hp:(wyV p c::H').Perm H)(hmin:∀ a ∈ H',(c:Int)≤a.2.2.2)(hd:∀ d,(p,d) ∉ ds):
  Dij l x y z (ds++[(p,c)]) H' (fun q i=>q=p∧0≤i) c:=by
 have hsub:∀ a ∈ H',a ∈ H:=fun a ha=>hp.mem_iff.1 (List.mem_cons_of_mem _ ha)
 obtain⟨p',c',e0,hr,hbc,hcb⟩:=h.heap (wyV p c) (hp.mem_iff.1 List.mem_cons_self)
 obtain⟨rfl,rfl⟩:=wyV_one e0
 have split:∀ {q:Pt} {e:Nat},wyV q e ∈ H→(q=p∧e=c)∨wyV q e ∈ H':=fun {q e} hq=>by
  rcases List.mem_cons.1 (hp.mem_iff.2 hq)with g | g
  ·exact .inl (wyV_one g)
  ·exact .inr g
 have hlen:(ds++[(p,c)]).length*1000000000=ds.length*1000000000+1000000000:=by rw[List.length_append,List.length_singleton,Nat.add_mul,Nat.one_mul]
 refine⟨?_,fun a ha=>?_,fun q e hq=>?_,fun q e hq i p' ht hO=>?_,?_⟩
 ·rw [List.map_append,List.nodup_append]
  refine⟨h.nd,by simp,fun q hq q' hq'=>?_⟩
  simp only[List.map_cons,List.map_nil,List.mem_singleton]at hq';subst hq';obtain⟨⟨q0,e0⟩,h1,rfl⟩:=List.mem_map.1 hq
  intro e;simp only at e;subst e;exact hd _ h1
 ·obtain ⟨q,e,rfl,k1,k2,k3⟩:=h.heap a (hsub a ha)
  have:=hmin _ ha;simp only[wyV]at this;exact⟨q,e,rfl,k1,by omega,by rw[hlen];exact Nat.le_trans k3 (Nat.le_add_right _ _)⟩
 ·rcases List.mem_append.1 hq with g | g
  ·obtain ⟨k1,k2,k3⟩:=h.done q e g
   exact⟨k1,Nat.le_trans k2 hbc,by rw[hlen];exact Nat.le_trans k3 (Nat.le_add_right _ _)⟩
  ·simp only[List.mem_singleton,Prod.mk.injEq]at g
   obtain⟨rfl,rfl⟩:=g
   exact⟨hr,Nat.le_refl _,by rw[hlen];exact Nat.add_le_add_right hcb _⟩
 ·rcases List.mem_append.1 hq with g | g
  ·rcases h.clos q e g i p' ht id with⟨e',g1,g2⟩ | g1
   ·exact .inl ⟨e',List.mem_append_left _ g1,g2⟩
   ·rcases split g1 with⟨rfl,g2⟩ | g2
    ·exact .inl ⟨c,by simp,by omega⟩
    ·exact .inr g2
  ·simp only[List.mem_singleton,Prod.mk.injEq]at g
   obtain⟨rfl,rfl⟩:=g
   exact absurd ⟨rfl,Nat.zero_le _⟩ hO
 ·rcases h.beg with g | g
  ·exact .inl (List.mem_append_left _ g)
  ·rcases split g with⟨g1,g2⟩ | g
   ·left
    rw[g1,g2];simp
   ·exact .inr g
theorem Dij.push {l:List St}{x y:List Int}{z:Nat}{ds:List (Pt × Nat)}{H H':List Ar}{p:Pt}{c k:Nat}(hto:ToL l)(hz:z<l.length)(h:Dij l x y z ds H (fun q i=>q=p∧k≤i) c)(hpc:(p,c) ∈ ds){p':Pt}(ht:ToP l x y p k p')(hp:H'.Perm (H++[wyV p' (c+wtP l p k)])):
  Dij l x y z ds H' (fun q i=>q=p∧k+1≤i) c:=by
 obtain⟨k1,k2,k3⟩:=h.done p c hpc
 have hmem:∀ a,a ∈ H'↔a ∈ H∨a=wyV p' (c+wtP l p k):=fun a=>by rw[hp.mem_iff,List.mem_append,List.mem_singleton]
 have hw:=(ht.inside hto (k1.inside hto hz)).2;refine⟨h.nd,fun a ha=>?_,h.done,fun q e hq i r hr hO=>?_,?_⟩
 ·rcases (hmem a).1 ha with g | g
  ·exact h.heap a g
  ·exact ⟨_,_,g,k1.step ht.1 ht,by omega,by omega⟩
 ·by_cases e1:q=p∧k≤i
  ·obtain ⟨rfl,e2⟩:=e1
   have e3:i=k:=by
    by_cases e4:k+1≤i
    ·exact absurd ⟨rfl,e4⟩ hO
    ·omega
   subst e3;have e5:=hr.one ht;subst e5;have e6:=jjff h.nd hq hpc;subst e6;exact .inr ((hmem _).2 (.inr rfl))
  ·rcases h.clos q e hq i r hr e1 with g | g
   ·exact .inl g
   ·exact .inr ((hmem _).2 (.inl g))
 ·rcases h.beg with g | g
  ·exact .inl g
  ·exact .inr ((hmem _).2 (.inl g))
theorem Dij.skip {l:List St}{x y:List Int}{z:Nat}{ds:List (Pt × Nat)}{H:List Ar}{p:Pt}{c k:Nat}(h:Dij l x y z ds H (fun q i=>q=p∧k≤i) c)(ht:∀ p',¬ ToP l x y p k p'):
  Dij l x y z ds H (fun q i=>q=p∧k+1≤i) c:=by
 refine⟨h.nd,h.heap,h.done,fun q e hq i r hr hO=>h.clos q e hq i r hr fun g=>hO ⟨g.1,?_⟩,h.beg⟩
 by_cases e:i=k
 ·subst e
  obtain⟨rfl,_⟩:=g
  exact absurd hr (ht r)
 ·omega
theorem Dij.all {l:List St}{x y:List Int}{z:Nat}{ds:List (Pt × Nat)}{H:List Ar}{p:Pt}{c k:Nat}(h:Dij l x y z ds H (fun q i=>q=p∧k≤i) c)(hk:(el l p.1).2.length≤k):
  Dij l x y z ds H (fun _ _=>False) c:=
 ⟨h.nd,h.heap,h.done,fun q e hq i r hr _=>h.clos q e hq i r hr fun g=>by
  have:=hr.1
  rw[g.1]at this
  omega,h.beg⟩
theorem Dij.told {l:List St}{x y:List Int}{z:Nat}{ds:List (Pt × Nat)}{b:Nat}(h:Dij l x y z ds [] (fun _ _=>False) b){p:Pt}{c:Nat}(hr:Rch l x y z p c):∃ d,(p,d) ∈ ds∧d≤c:=by
  induction hr with
  | nil=>
    rcases h.beg with g | g
    · exact⟨0,g,Nat.le_refl _⟩
    · cases g
  | step hr hi e ih=>
    obtain⟨d,h1,h2⟩:=ih
    rcases h.clos _ _ h1 _ _ e id with⟨d',g1,g2⟩ | g
    · exact⟨d',g1,by omega⟩
    · cases g
theorem Dij.few {l:List St}{x y:List Int}{z:Nat}{ds:List (Pt × Nat)}{H:List Ar}{O:Pt→Nat→Prop}{b:Nat}(h:Dij l x y z ds H O b)(hto:ToL l)(hz:z<l.length)(hl:l.length≤60)(hx:x.length≤12)(hy:y.length≤12):ds.length≤10140:=by
 have hin:∀ p ∈ ds.map Prod.fst,InP l x y p:=fun p hp=>by
  obtain⟨⟨q,c⟩,h1,rfl⟩:=List.mem_map.1 hp
  exact(h.done q c h1).1.inside hto hz
 have hnd:((ds.map Prod.fst).map fun p:Pt=>idx x.length y.length p.1 p.2.1 p.2.2).Nodup:=by
  unfold List.Nodup;rw[List.pairwise_map];refine List.Pairwise.imp_of_mem ?_ h.nd
  rintro⟨a,b,c⟩ ⟨a',b',c'⟩ h1 h2 hne e
  have i1:=hin _ h1;have i2:=hin _ h2;obtain⟨rfl,rfl,rfl⟩:=idx_one i1.2.1 i1.2.2 i2.2.1 i2.2.2 e
  exact hne rfl
 have:=pigeon (l.length*(x.length+1)*(y.length+1)) _ hnd (fun k hk=>by
  obtain⟨p,hp,rfl⟩:=List.mem_map.1 hk
  have:=hin p hp
  exact idx_lt this.1 this.2.1 this.2.2)
 rw[List.length_map,List.length_map]at this;have h1:l.length*(x.length+1)≤60*13:=Nat.mul_le_mul hl (by omega);have h2:l.length*(x.length+1)*(y.length+1)≤60*13*13:=Nat.mul_le_mul h1 (by omega);omega
def BstA (P:Nat→Prop)(n:Int)(f:Bool):Prop:=(f=false∧n=0∧∀ c,¬ P c)∨(f=true∧∃ c:Nat,LeastP P c∧n=(c:Int))
def CstN (R:Nat→Nat→Prop)(l:List St)(n:Nat)(c:Nat):Prop:=∃ p d,p<n∧R p d∧(el l p).1≠1000000001∧c=d+(el l p).1.toNat
def RW (m:Mc)(x y:List Int)(q d:Nat):Prop:=0≤m.1∧Way m.2 m.1.toNat x y q d
theorem cstN_all (m:Mc)(x y:List Int)(c:Nat):CstN (RW m x y) m.2 m.2.length c↔Costs m x y c:=by
 unfold CstN Costs RW;constructor
 ·rintro ⟨p,d,h1,⟨h0,h2⟩,h3,h4⟩
  exact⟨h0,p,d,h2,h1,h3,h4⟩
 ·rintro ⟨h0,p,d,h2,h1,h3,h4⟩
  exact⟨p,d,h1,⟨h0,h2⟩,h3,h4⟩
theorem BstA.start (R:Nat→Nat→Prop)(l:List St):BstA (CstN R l 0) 0 false:= .inl ⟨rfl,rfl,fun c ⟨p,d,h,_⟩=>by omega⟩
theorem BstA.congr {P Q:Nat→Prop}(hPQ:∀ c,P c↔Q c){n:Int}{f:Bool}(h:BstA P n f):BstA Q n f:=by
 have:P=Q:=funext fun c=>propext (hPQ c)
 rwa [← this]
theorem BstA.skip {R:Nat→Nat→Prop}{l:List St}{k:Nat}{n:Int}{f:Bool}(h:BstA (CstN R l k) n f)(hno:(∀ d,¬ R k d)∨(el l k).1=1000000001):BstA (CstN R l (k+1)) n f:=by
 refine h.congr fun c=>⟨fun ⟨p,d,h1,h2⟩=>⟨p,d,by omega,h2⟩,fun ⟨p,d,h1,h2,h3,h4⟩=>?_⟩
 by_cases e:p=k
 ·subst e
  rcases hno with g | g
  ·exact absurd h2 (g d)
  ·exact absurd g h3
 ·exact ⟨p,d,by omega,h2,h3,h4⟩
theorem BstA.take {R:Nat→Nat→Prop}{l:List St}{k e:Nat}{n:Int}{f:Bool}(h:BstA (CstN R l k) n f)(hw:LeastP (R k) e)(hf:(el l k).1≠1000000001)(h0:0≤(el l k).1)(hlt:f=false∨(e:Int)+(el l k).1<n):BstA (CstN R l (k+1)) ((e:Int)+(el l k).1) true:=by
 refine .inr ⟨rfl,e+(el l k).1.toNat,⟨⟨k,e,by omega,hw.1,hf,rfl⟩,?_⟩,by omega⟩
 rintro c ⟨p,d,h1,h2,h3,rfl⟩
 by_cases g:p=k
 ·subst g
  have:=hw.2 d h2;omega
 ·rcases h with⟨_,_,hno⟩ | ⟨rfl,b,hb,rfl⟩
  ·exact absurd ⟨p,d,by omega,h2,h3,rfl⟩ (hno _)
  ·have:=hb.2 _ ⟨p,d,by omega,h2,h3,rfl⟩
   rcases hlt with g1 | g1
   ·cases g1
   ·omega
theorem BstA.stay {R:Nat→Nat→Prop}{l:List St}{k e:Nat}{n:Int}(h:BstA (CstN R l k) n true)(hw:LeastP (R k) e)(h0:0≤(el l k).1)(hlt:¬ (e:Int)+(el l k).1<n):BstA (CstN R l (k+1)) n true:=by
 rcases h with⟨h,_⟩ | ⟨_,b,hb,rfl⟩
 ·cases h
 ·obtain ⟨p0,d0,g1,g2,g3,g4⟩:=hb.1
  refine .inr ⟨rfl,b,⟨⟨p0,d0,by omega,g2,g3,g4⟩,?_⟩,rfl⟩
  rintro c ⟨p,d,h1,h2,h3,rfl⟩
  by_cases g:p=k
  ·subst g
   have:=hw.2 d h2;omega
  ·exact hb.2 _ ⟨p,d,by omega,h2,h3,rfl⟩
def PlT (m:Mc)(x y:List Int)(ds:List (Pt × Nat)):Prop:=∀ q,q<m.2.length→(∃ d,((q,x.length,y.length),d) ∈ ds∧d≤20000000000000∧LeastP (RW m x y q) d)∨((∀ d,((q,x.length,y.length),d) ∉ ds)∧∀ d,¬ RW m x y q d)
theorem PlT.none {m:Mc}{x y:List Int}(h:m.1<0):PlT m x y []:=fun q hq=> .inr ⟨fun d hd=>(by cases hd),fun d hd=>by have:=hd.1;omega⟩
theorem PlT.dij {m:Mc}{x y:List Int}{z:Nat}{ds:List (Pt × Nat)}{b:Nat}(hz:m.1=(z:Int))(hzl:z<m.2.length)(hto:ToL m.2)(h:Dij m.2 x y z ds [] (fun _ _=>False) b)(hl:m.2.length≤60)(hx:x.length≤12)(hy:y.length≤12):PlT m x y ds:=by
 intro q hq;have hrw:∀ d,RW m x y q d↔Rch m.2 x y z (q,x.length,y.length) d:=fun d=>by
  unfold RW;rw[hz,Int.toNat_natCast,rch_iff hto hzl];exact⟨fun h=>h.2,fun h=>⟨by omega,h⟩⟩
 by_cases he:∃ d,((q,x.length,y.length),d) ∈ ds
 ·obtain ⟨d,hd⟩:=he
  refine .inl ⟨d,hd,?_,(hrw d).2 (h.done _ _ hd).1,fun d' hd'=>?_⟩
  ·have h1:=(h.done _ _ hd).2.2
   have h2:=h.few hto hzl hl hx hy;have:ds.length*1000000000≤10140*1000000000:=Nat.mul_le_mul_right _ h2;omega
  ·obtain ⟨d2,h1,h2⟩:=h.told ((hrw d').1 hd')
   rw[jjff h.nd hd h1];exact h2
 ·refine .inr ⟨fun d hd=>he ⟨d,hd⟩,fun d hd=>?_⟩
  obtain⟨d2,h1,_⟩:=h.told ((hrw d).1 hd)
  exact he ⟨d2,h1⟩
theorem BstA.wgh {P:Nat→Prop}{n:Int}{f:Bool}(h:BstA P n f):WghAns P (if f=true then(if 1000000000<n then 0 else n) else 1000000001) (if f=true then(if 1000000000<n then 4 else 0) else 0):=by
 rcases h with⟨rfl,rfl,h⟩ | ⟨rfl,c,hc,rfl⟩
 ·exact .inl ⟨h,rfl,rfl⟩
 ·rw [if_pos rfl,if_pos rfl]
  by_cases g:(1000000000:Int)<c
  ·rw [if_pos g,if_pos g]
   exact .inr ⟨c,hc,.inr ⟨by omega,rfl,rfl⟩⟩
  ·rw [if_neg g,if_neg g]
   exact .inr ⟨c,hc,.inl ⟨by omega,rfl,rfl⟩⟩
theorem right_toL {m:Mc}(h:faultM m=0):ToL m.2:=by
 obtain⟨z,l⟩:=m
 intro q hq a ha;simp only at hq ha ⊢;have h1:=(jjbv h hq).2;rw[List.all_eq_true]at h1;have h2:=h1 a ha;simp only[arcB,Bool.and_eq_true,inB,decide_eq_true_eq]at h2;refine⟨⟨a.2.2.2.toNat,by omega,by omega⟩,by omega,by omega⟩
theorem right_arcs {m:Mc}(h:faultM m=0)(q:Nat):(el m.2 q).2.length≤400:=by
  obtain⟨z,l⟩:=m
  rcases Nat.lt_or_ge q l.length with g | g
  · have h1:=(jjae h).2
    have:(el l q).2.length≤arcN l:=by
      have hs:∀ (l:List St) (q:Nat),q<l.length→(el l q).2.length≤arcN l:=by
        intro l;induction l with
        | nil=>intro q hq;simp at hq
        | cons s l ih=>
          intro q hq;cases q with
          | zero=>rw [jjbj];simp[arcN]
          | succ q=>rw [jjbt];have:=ih q (by simpa using hq);simp[arcN];omega
      exact hs l q g
    exact Nat.le_trans this h1
  · have:el l q=default:=by simp[el,g]
    show(el l q).2.length≤400;rw[this];simp[default]
def behP (w:List Int)(i:Nat)(b:Int):Int × Bool:=if b=0 then((i:Int),true) else((i:Int)+1,decide (i<w.length∧el w i=b))
theorem behP_fit {w:List Int}{i:Nat}{b:Int}:((behP w i b).2=true→∃ j:Nat,fitN w i b=some j∧(behP w i b).1=(j:Int))∧((behP w i b).2=false→fitN w i b=none):=by
 unfold behP fitN;by_cases h:b=0
 ·simp [h]
 ·by_cases g:i<w.length∧el w i=b
  ·simp only[h,if_false,g,and_self,if_true,decide_true,true_implies,Bool.true_eq_false,false_implies,and_true]
   exact⟨i+1,rfl,by omega⟩
  ·simp [h,g]
end Pl
namespace Wt
open ChangeShapes WideShapes ChangeAt RowKit Pl
theorem behind_any (v:Value)(l:List Int)(i:Nat)(b:Int)(w:World)(h:Nums w v l)(hl:l.length≤12)(hi:i≤100):
  Calls Tryz.prog 191 #[v,.int .i64 (i:Int),.int .i64 b] w fun e w'=>e= .returned (.tuple #[.int .i64 (behP l i b).1,.bool (behP l i b).2])∧w=w':=by
 unfold behP;by_cases hb:b=0
 ·subst hb
  rw[if_pos rfl];clear h;go_enter Tryz.func191,Tryz.ntmps191;go_wp2;exact bodyPost_ret (v:= .tuple #[.int .i64 (i:Int),.bool true]) (by simp[results,Tryz.results191,go_sem, *]) rfl ⟨rfl,rfl⟩
 ·rw [if_neg hb]
  have HC:Hid (Calls Tryz.prog 194 #[v,.int .i64 (i:Int)] w fun e w'=>e= .returned (.int .i64 (atW l i))∧w=w'):=labelAt_any v l i w h hl hi;have hd:decide (i<l.length∧el l i=b)=decide (atW l i=b):=by
   unfold atW;by_cases g:i<l.length
   ·rw [if_pos g];simp[g]
   ·rw [if_neg g];simp[g];exact fun e=>hb e.symm
  have k1:IntKind.i64.wrap ((i:Int)+1)=(i:Int)+1:=wrapI (by omega) (by omega);simp only;rw[hd];generalize atW l i=y at *;clear h hd;by_cases hy:y=b
  ·subst hy
   go_enter Tryz.func191,Tryz.ntmps191;go_wp2_with (first | (go_at_call 194;(with_reducible refine HC.out.mono ?_);rintro e w' ⟨rfl,rfl⟩));exact bodyPost_ret (v:= .tuple #[.int .i64 ((i:Int)+1),.bool true]) (by simp[results,Tryz.results191,go_sem, *]) rfl ⟨by simp,rfl⟩
  ·go_enter Tryz.func191,Tryz.ntmps191
   go_wp2_with (first | (go_at_call 194;(with_reducible refine HC.out.mono ?_);rintro e w' ⟨rfl,rfl⟩));exact bodyPost_ret (v:= .tuple #[.int .i64 ((i:Int)+1),.bool false]) (by simp[results,Tryz.results191,go_sem, *]) rfl ⟨by simp[hy],rfl⟩
theorem along_any (vx vy:Value)(x y:List Int)(q i j:Nat)(a:Ar)(w:World)(hx:Nums w vx x)(hy:Nums w vy y)(hxl:x.length≤12)(hyl:y.length≤12)(hi:i≤12)(hj:j≤12):
  Calls Tryz.prog 185 #[.agg #[.int .i64 (q:Int),.int .i64 (i:Int),.int .i64 (j:Int)],.agg #[.int .i64 a.1,.int .i64 a.2.1,.int .i64 a.2.2.1,.int .i64 a.2.2.2],vx,vy] w fun e w'=>e= .returned (.tuple #[.agg #[.int .i64 a.2.2.2,.int .i64 (behP x i a.1).1,.int .i64 (behP y j a.2.1).1],.bool ((behP x i a.1).2&&(behP y j a.2.1).2)])∧Below w.heap.size w w':=by
 obtain⟨a0,a1,a2,a3⟩:=a
 simp only;have HX:Hid (∀ W,Below w.heap.size w W→Calls Tryz.prog 191 #[vx,.int .i64 (i:Int),.int .i64 a0] W fun e w'=>e= .returned (.tuple #[.int .i64 (behP x i a0).1,.bool (behP x i a0).2])∧W=w'):=fun W hW=>behind_any vx x i a0 W (hx.later hW (Nat.le_refl _)) hxl (by omega)
 have HY:Hid (∀ W,Below w.heap.size w W→Calls Tryz.prog 191 #[vy,.int .i64 (j:Int),.int .i64 a1] W fun e w'=>e= .returned (.tuple #[.int .i64 (behP y j a1).1,.bool (behP y j a1).2])∧W=w'):=fun W hW=>behind_any vy y j a1 W (hy.later hW (Nat.le_refl _)) hyl (by omega)
 generalize behP x i a0=rx at *;generalize behP y j a1=ry at *;obtain⟨r1,b1⟩:=rx
 obtain⟨r2,b2⟩:=ry
 simp only at HX HY ⊢;clear hx hy;cases b1
 ·go_enter Tryz.func185,Tryz.ntmps185
  go_wp2_with (first
   | (go_at_call 191;(with_reducible refine(HX.out _ (by go_grown)).mono ?_);rintro e w' ⟨rfl,rfl⟩)
   | (go_at_call 191;(with_reducible refine(HY.out _ (by go_grown)).mono ?_);rintro e w' ⟨rfl,rfl⟩))
  exact bodyPost_ret (v:= .tuple #[.agg #[.int .i64 a3,.int .i64 r1,.int .i64 r2],.bool false]) (by simp[results,Tryz.results185,go_sem, *]) rfl ⟨by simp,by go_grown⟩
 ·go_enter Tryz.func185,Tryz.ntmps185
  go_wp2_with (first
   | (go_at_call 191;(with_reducible refine(HX.out _ (by go_grown)).mono ?_);rintro e w' ⟨rfl,rfl⟩)
   | (go_at_call 191;(with_reducible refine(HY.out _ (by go_grown)).mono ?_);rintro e w' ⟨rfl,rfl⟩))
  exact bodyPost_ret (v:= .tuple #[.agg #[.int .i64 a3,.int .i64 r1,.int .i64 r2],.bool b2]) (by simp[results,Tryz.results185,go_sem, *]) rfl ⟨by simp,by go_grown⟩
open Maps
theorem lawPlK :Go.WideMaps.KeyLaw Tryz.prog 196:=Go.deep_law (m:=2) (by omega) (by kernel_rfl) (by kernel_rfl) (by kernel_rfl)
theorem lawPl :Keyed Tryz.prog 196:=Keyed.of_law lawPlK
def plV (p:Pt):Value:= .agg #[.int .i64 (p.1:Int),.int .i64 (p.2.1:Int),.int .i64 (p.2.2:Int)]
def SmQ (p:Pt):Prop:=p.1≤1000∧p.2.1≤1000∧p.2.2≤1000
theorem wfSm {n:Nat}(h:n≤100000000000000):(Lit.int .i64 (n:Int)).wf=true:=by
 simp[Lit.wf,IntKind.min,IntKind.max,IntKind.signed,IntKind.bits];omega
theorem keyPl {p:Pt}(h:SmQ p):∃ kl,keyOf Tryz.prog 196 (plV p)=some kl:=by
 have w1:(Lit.int .i64 (p.1:Int)).wf=true:=wfSm (by have:=h.1;omega);have w2:(Lit.int .i64 (p.2.1:Int)).wf=true:=wfSm (by have:=h.2.1;omega);have w3:(Lit.int .i64 (p.2.2:Int)).wf=true:=wfSm (by have:=h.2.2;omega);unfold plV;generalize (p.1:Int)=x at *;generalize (p.2.1:Int)=y at *;generalize (p.2.2:Int)=z at *;have h1:Tryz.prog.keyType 196=true:=by kernel_rfl
 have hc:Tryz.prog.cellsOf 196=3:=by kernel_rfl
 have hi:Tryz.prog.cellsOf 3=1:=by kernel_rfl
 have h2:(Value.agg #[.int .i64 x,.int .i64 y,.int .i64 z]).formed Tryz.prog 196=true:=by simp[Value.formed,Tryz.underlying196,hc]
 obtain⟨n,hn⟩:∃ n,Tryz.prog.types.size+1=n+1+1:=⟨Tryz.prog.types.size-1,by kernel_rfl⟩
 have h3:Tryz.prog.keyLits (Tryz.prog.types.size+1) 196 [.int .i64 x,.int .i64 y,.int .i64 z]=some [.int .i64 x,.int .i64 y,.int .i64 z]:=by
  rw[hn];simp[Program.keyLits,Tryz.underlying196,Tryz.underlying3,hc,hi,w1,w2,w3]
 refine⟨.string (keyBytes [.int .i64 x,.int .i64 y,.int .i64 z]),?_⟩
 unfold keyOf;rw[Tryz.underlying196];simp only[h1,h2,Bool.and_self,if_true,Value.cells,h3,Option.map_some]
theorem plV_one {p q:Pt}(h:plV p=plV q):p=q:=by
 obtain⟨a,b,c⟩:=p
 obtain⟨a',b',c'⟩:=q
 simp[plV]at h;simp only[Prod.mk.injEq];omega
theorem keyPl_inj {p q:Pt}{kl:Lit}(h:keyOf Tryz.prog 196 (plV p)=some kl)(h':keyOf Tryz.prog 196 (plV q)=some kl):p=q:=plV_one (lawPl.inj h h')
def DoneM (w:World)(m:Nat)(ds:List (Pt × Nat)):Prop:=
  ∃ D:DataW Unit,w.ownsMap Tryz.prog 196 (plainElem Tryz.prog 3) m ds.length D∧Maps.size D=ds.length∧
    ∀ p kl,keyOf Tryz.prog 196 (plV p)=some kl→(∀ d,(p,d) ∈ ds→has D kl=true∧D.atKey kl (.lit (.int .i64 0))= .lit (.int .i64 (d:Int)))∧((∀ d,(p,d) ∉ ds)→has D kl=false)
def mapLen (w:World)(m:Nat):Nat:=match w.heap[m]? with
 | some (.map es _)=>es.size
 | _=>0
theorem DoneM.len {w:World}{m:Nat}{ds:List (Pt × Nat)}(h:DoneM w m ds):mapLen w m=ds.length:=by
 obtain⟨D,⟨es,clock,hb,F,_,rfl⟩,h2,_⟩:=h
 rw[← h2];unfold mapLen;rw[hb];simp[Maps.size,length_sorted]
theorem DoneM.lt {w:World}{m:Nat}{ds:List (Pt × Nat)}(h:DoneM w m ds):m<w.heap.size:=by obtain⟨D,h,_⟩:=h;exact h.lt
theorem DoneM.made (w:World):DoneM (w.alloc (.map #[] 0)) w.heap.size []:=
 ⟨_,World.ownsMap_made w _ _ _,rfl,fun p kl h=>⟨fun d hd=>(by cases hd),fun _=>rfl⟩⟩
theorem DoneM.keep {w w':World}{m:Nat}{ds:List (Pt × Nat)}(h:DoneM w m ds)(e:w'.heap[m]? =w.heap[m]?):DoneM w' m ds:=by
 obtain⟨D,⟨es,clock,hb,h0⟩,h1⟩:=h
 exact⟨D,⟨es,clock,e.trans hb,h0⟩,h1⟩
theorem DoneM.alloc {w:World}{m:Nat}{ds:List (Pt × Nat)}(h:DoneM w m ds)(o:Obj):DoneM (w.alloc o) m ds:=h.keep (Below.heap_alloc w o m h.lt)
theorem DoneM.below {w w':World}{m B:Nat}{ds:List (Pt × Nat)}(h:DoneM w m ds)(hb:Below B w w')(hB:m<B):DoneM w' m ds:=h.keep (hb.block m hB)
theorem DoneM.turn {w w':World}{m b:Nat}{r:Option Nat}{ds:List (Pt × Nat)}(h:DoneM w m ds)(ht:Turn2 w w' b r)(hb:m≠b)(hr:some m≠r):DoneM w' m ds:=h.keep (ht.block m h.lt hb hr)
theorem zeroPl (w:World):(zeroValue 3).run Tryz.prog w= .ok (.int .i64 0) w:=by kernel_rfl
theorem DoneM.look {w:World}{m:Nat}{ds:List (Pt × Nat)}(h:DoneM w m ds){p:Pt}(hp:SmQ p):
  (∃ d,(p,d) ∈ ds∧(Instr.lookup 193 (.map (some m)) (.agg #[.int .i64 (p.1:Int),.int .i64 (p.2.1:Int),.int .i64 (p.2.2:Int)]) true).run Tryz.prog w= .ok (.tuple #[.int .i64 (d:Int),.bool true]) w)∨
  ((∀ d,(p,d) ∉ ds)∧∃ c,(Instr.lookup 193 (.map (some m)) (.agg #[.int .i64 (p.1:Int),.int .i64 (p.2.1:Int),.int .i64 (p.2.2:Int)]) true).run Tryz.prog w= .ok (.tuple #[.int .i64 c,.bool false]) w):=by
 obtain⟨D,h1,_,h3⟩:=h
 obtain⟨kl,hk⟩:=keyPl hp
 obtain⟨v,ps,hr,hv⟩:=World.ownsMap.look_ok h1 lawPl Tryz.underlying193 (zeroPl w) (plainElem_int Tryz.underlying3 (by decide)) hk
 obtain⟨c,rfl,hc,_⟩:=plainElem_int_inv Tryz.underlying3 hv
 have hc':=congrArg Prod.fst hc;simp only at hc';obtain⟨g1,g2⟩:=h3 p kl hk
 by_cases he:∃ d,(p,d) ∈ ds
 ·obtain ⟨d,hd⟩:=he
  obtain⟨k1,k2⟩:=g1 d hd
  left
  refine⟨d,hd,?_⟩
  rw[k2]at hc';rw[k1]at hr;injection hc' with e1
  injection e1 with _ e2
  rw[← e2]at hr;exact hr
 ·have hno:∀ d,(p,d) ∉ ds:=fun d hd=>he ⟨d,hd⟩
  right
  rw[g2 hno]at hr;exact⟨hno,c,hr⟩
theorem DoneM.put {w:World}{m:Nat}{ds:List (Pt × Nat)}(h:DoneM w m ds){p:Pt}(hp:SmQ p)(hno:∀ d,(p,d) ∉ ds){c:Nat}(hc:c≤100000000000000)(hn:ds.length<100000):
  ∃ w',(Instr.mapUpdate 193 (.map (some m)) (.agg #[.int .i64 (p.1:Int),.int .i64 (p.2.1:Int),.int .i64 (p.2.2:Int)]) (.int .i64 (c:Int))).run Tryz.prog w= .ok () w'∧DoneM w' m (ds++[(p,c)])∧w.grownBy w' (some m):=by
 obtain⟨D,h1,h2,h3⟩:=h
 obtain⟨kl,hk⟩:=keyPl hp
 obtain⟨w',hu,ho,hg⟩:=World.ownsMap.update (R:=plainElem Tryz.prog 3) h1 lawPl Tryz.underlying193 (by unfold maxLen;omega) hk (plainElem_int Tryz.underlying3 (wfSm hc))
 refine⟨w',hu,⟨_,by rw[List.length_append];exact ho,?_,fun q kl' hk'=>?_⟩,hg⟩
 ·rw [size_put (h1.tidy lawPl),(h3 p kl hk).2 hno,h2]
  simp
 ·by_cases e:q=p
  ·subst e
   have:kl'=kl:=by rw[hk]at hk';injection hk' with h;exact h.symm
   subst this;refine⟨fun d hd=>⟨has_put_same h1.isMap (lawPl.key hk) _,?_⟩,fun hq=>absurd (List.mem_append_right _ List.mem_cons_self) (hq c)⟩
   rw[atKey_put_same h1.isMap (lawPl.key hk)];rcases List.mem_append.1 hd with g | g
   ·exact absurd g (hno d)
   ·simp only[List.mem_singleton,Prod.mk.injEq,true_and]at g
    rw[g]
  ·have hne:kl'≠kl:=fun h=>by
    subst h;exact e (keyPl_inj hk' hk)
   have hmem:∀ d,(q,d) ∈ ds++[(p,c)]↔(q,d) ∈ ds:=fun d=>by
    rw[List.mem_append];constructor
    ·rintro (g | g)
     ·exact g
     ·simp only[List.mem_singleton,Prod.mk.injEq]at g
      exact absurd g.1 e
    ·exact .inl
   obtain⟨g1,g2⟩:=h3 q kl' hk'
   refine⟨fun d hd=>?_,fun hq=>?_⟩
   ·obtain ⟨k1,k2⟩:=g1 d ((hmem d).1 hd)
    exact⟨(has_put_other hne _).trans k1,(atKey_put_other hne _ _).trans k2⟩
   ·exact (has_put_other hne _).trans (g2 fun d hd=>hq d ((hmem d).2 hd))
end Wt
namespace Pl
theorem along_to {l:List St}{x y:List Int}{p:Pt}{k:Nat}{a:Ar}(hto:ToL l)(hin:InP l x y p)(hk:k<(el l p.1).2.length)(ha:el (el l p.1).2 k=a):
  (∃ (p':Pt) (wt:Nat),ToP l x y p k p'∧wtP l p k=wt∧wt≤1000000000∧a.2.2.1=(wt:Int)∧a.2.2.2=(p'.1:Int)∧behP x p.2.1 a.1=((p'.2.1:Int),true)∧behP y p.2.2 a.2.1=((p'.2.2:Int),true))∨
  ((∀ p',¬ ToP l x y p k p')∧((behP x p.2.1 a.1).2&&(behP y p.2.2 a.2.1).2)=false):=by
 obtain⟨⟨t,e1,e2⟩,w0,w1⟩:=hto _ hin.1 _ (jjac hk)
 rw[ha]at e1 w0 w1;have no1:fitN x p.2.1 a.1=none→∀ p',¬ ToP l x y p k p':=fun h p' ⟨_,_,h2,_⟩=>by rw[ha,h]at h2;cases h2
 have no2:fitN y p.2.2 a.2.1=none→∀ p',¬ ToP l x y p k p':=fun h p' ⟨_,_,_,h2⟩=>by rw[ha,h]at h2;cases h2
 rcases hb1:(behP x p.2.1 a.1).2 with _ | _
 ·exact .inr ⟨no1 (behP_fit.2 hb1),rfl⟩
 ·rcases hb2:(behP y p.2.2 a.2.1).2 with _ | _
  ·exact .inr ⟨no2 (behP_fit.2 hb2),rfl⟩
  ·obtain ⟨i,f1,g1⟩:=behP_fit.1 hb1
   obtain⟨j,f2,g2⟩:=behP_fit.1 hb2
   refine .inl ⟨(t,i,j),a.2.2.1.toNat,⟨hk,by rw[ha];exact e1,by rw[ha];exact f1,by rw[ha];exact f2⟩,by unfold wtP;rw[ha],by omega,by omega,e1,?_,?_⟩
   ·rw [← g1,← hb1]
   ·rw [← g2,← hb2]
end Pl
namespace Wt
open ChangeShapes WideShapes ChangeAt RowKit Pl
structure PlcAt (w wr:World)(M B:Nat)(mc:Array Value)(v:Value)(hs:List Ar)(ds:List (Pt × Nat)):Prop where
 box:Blk wr w.heap.size mc 24
 map:DoneM wr M ds
 var:Blk wr B #[v] 229
 heap:wr.ownsRow (B+1) 232 4 v hs.length (hs.flatMap encA)
 below:Below w.heap.size w wr
 s0:w.heap.size<M
 s1:M<B
 s2:B+1≤wr.heap.size
variable {w wr w':World} {M B:Nat} {mc:Array Value} {v v':Value} {hs hs':List Ar} {ds ds':List (Pt × Nat)}
theorem PlcAt.later (h:PlcAt w wr M B mc v hs ds)(hb:Below wr.heap.size wr w'):PlcAt w w' M B mc v hs ds:=
 ⟨h.box.below hb h.box.lt,h.map.below hb h.map.lt,h.var.below hb h.var.lt,ownBelow h.heap hb,h.below.trans (hb.mono h.below.size),h.s0,h.s1,Nat.le_trans h.s2 hb.size⟩
theorem PlcAt.alloc (h:PlcAt w wr M B mc v hs ds)(o:Obj):PlcAt w (wr.alloc o) M B mc v hs ds:=h.later ((Below.refl _ _).alloc (Nat.le_refl _) _)
theorem PlcAt.turn (h:PlcAt w wr M B mc v hs ds)(ht:Turn2 wr w' B v.ownBlock)(hv:Blk w' B #[v'] 229)(ho:w'.ownsRow (B+1) 232 4 v' hs'.length (hs'.flatMap encA)):PlcAt w w' M B mc v' hs' ds:=by
 have h0:=h.s0;have h1:=h.s1;have hlow:∀ k,k<B+1→some k≠v.ownBlock:=fun k hk e=>by have:=(h.heap.lt k e.symm).1;omega
 exact⟨ht.blk h.box (by omega) (hlow _ (by omega)),h.map.turn ht (by omega) (hlow _ (by omega)),hv,ho,h.below.trans (ht.below (by omega) (fun k hk=>by have:=(h.heap.lt k hk).1;omega) h.below.size),h0,h1,Nat.le_trans h.s2 ht.size⟩
theorem PlcAt.put (h:PlcAt w wr M B mc v hs ds)(hg:wr.grownBy w' (some M))(hm:DoneM w' M ds'):PlcAt w w' M B mc v hs ds':=by
 have h0:=h.s0;have h1:=h.s1;refine⟨h.box.grown hg (by simp;omega),hm,h.var.grown hg (by simp;omega),h.heap.kept hg (.inr ?_),h.below.trans ((Below.refl _ _).grown hg h.below.size (fun k hk=>by simp at hk;omega)),h0,h1,Nat.le_trans h.s2 hg.size⟩
 intro e
 have:=(h.heap.lt M e).1;omega
def lenAt (w:World)(b:Nat):Nat:=match w.cell? ⟨b,0,none⟩with
 | some (.slice _ n _)=>n
 | _=>0
def msrW (w:World)(M B:Nat):Nat:=(20000-mapLen w M)*10000000+lenAt w B
theorem PlcAt.msr (h:PlcAt w wr M B mc v hs ds):msrW wr M B=(20000-ds.length)*10000000+hs.length:=by
 obtain⟨a,cap,hv⟩:=own_slW h.heap
 unfold msrW lenAt;rw[h.map.len,h.var.cell 0 (v:=v) rfl,hv]
theorem lenW_low {n m a b:Nat}(h1:n<m)(h2:a≤9000000)(hm:m≤20000):(20000-m)*10000000+a<(20000-n)*10000000+b:=by
 have h3:(20000-m+1)*10000000≤(20000-n)*10000000:=Nat.mul_le_mul_right _ (by omega);rw[Nat.add_mul]at h3;omega
def NotRow (g:Nat)(v:Value):Prop:=some g≠v.ownBlock
theorem NotRow.next {g:Nat}(h:NotRow g v)(hn:Near wr v.ownBlock v')(hg:g<wr.heap.size):NotRow g v':=by
 rcases hn with e | ⟨b,e,hb⟩
 ·unfold NotRow;rw[e];exact h
 ·unfold NotRow;rw[e];intro e2;simp at e2;omega
theorem NotRow.new {base:Nat}{e:TypeId}{s n:Nat}{xs:List Value}(ho:wr.ownsRow base e s v n xs):NotRow wr.heap.size v:=fun e2=>by
 have:=(ho.lt _ e2.symm).2;omega
theorem whPush_ex (B base:Nat)(v:Value)(hs:List Ar)(q0 q1 q2 q3:Int)(w:World)(hB:Blk w B #[v] 229)(hown:w.ownsRow base 232 4 v hs.length (hs.flatMap encA))(hbase:base≤w.heap.size)(hn:hs.length≤9000000)(hH:HeapW hs hs.length):
  Calls Tryz.prog 173 #[.iface 230 (.pointer (some ⟨B,0,none⟩)),.iface 232 (.agg #[.int .i64 q0,.int .i64 q1,.int .i64 q2,.int .i64 q3])] w fun e w'=>e= .returned (.tuple #[])∧∃ v' hs',HeapW hs' hs'.length∧hs'.Perm (hs++[(q0,q1,q2,q3)])∧Blk w' B #[v'] 229∧w'.ownsRow base 232 4 v' hs'.length (hs'.flatMap encA)∧Near w v.ownBlock v'∧Turn2 w w' B v.ownBlock:=
 whPush_any B base v hs (q0,q1,q2,q3) w hB hown hbase hn hH
theorem whPop_ex (B base:Nat)(v:Value)(hs:List Ar)(w:World)(hB:Blk w B #[v] 229)(hown:w.ownsRow base 232 4 v hs.length (hs.flatMap encA))(h0:0<hs.length)(hn:hs.length≤9000000)(hH:HeapW hs hs.length){l:List St}{x y:List Int}{z:Nat}{ds:List (Pt × Nat)}{b:Nat}(hD:Dij l x y z ds hs (fun _ _=>False) b):
  Calls Tryz.prog 175 #[.iface 230 (.pointer (some ⟨B,0,none⟩))] w fun e w'=>∃ (p:Pt) (c:Nat),e= .returned (.iface 232 (.agg #[.int .i64 (p.1:Int),.int .i64 (p.2.1:Int),.int .i64 (p.2.2:Int),.int .i64 (c:Int)]))∧∃ v' hs',HeapW hs' hs'.length∧(wyV p c::hs').Perm hs∧(∀ a ∈ hs',(c:Int)≤a.2.2.2)∧Blk w' B #[v'] 229∧w'.ownsRow base 232 4 v' hs'.length (hs'.flatMap encA)∧Turn2 w w' B v.ownBlock:=by
 refine(whPop_any B base v hs w hB hown h0 hn hH).mono ?_
 rintro e w' ⟨q,rfl,v',hs',h1,h2,h3,h4,h5,h6,h7⟩
 obtain⟨p,c,rfl,_⟩:=hD.heap q (h2.mem_iff.1 List.mem_cons_self)
 exact⟨p,c,rfl,v',hs',h1,h2,h3,h4,h5,h7⟩
end Go.Proofs.YtppkiejhhmahcaaGreatDoor.Wt
