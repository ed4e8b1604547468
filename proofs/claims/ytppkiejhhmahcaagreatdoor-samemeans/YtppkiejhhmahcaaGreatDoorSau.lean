/- Facts, joined. -/
import Derived.Test.YtppkiejhhmahcaaGreatDoorSat
set_option linter.unusedSimpArgs false
set_option linter.unusedVariables false
namespace Go.Proofs.YtppkiejhhmahcaaGreatDoor.Pl
def mnL :List Int→Int
 | []=>noneI
 | c::cs=>if c<mnL cs then c else mnL cs
theorem mnL_none (cs:List Int):mnL cs≤noneI:=by
 induction cs with
 | nil=>exact Int.le_refl _
 | cons c cs ih=>simp only[mnL];split<;>omega
theorem jjci {cs:List Int}{c:Int}(h:c ∈ cs):mnL cs≤c:=by
  induction cs with
  | nil=>cases h
  | cons d cs ih=>
    simp only[mnL];rcases List.mem_cons.1 h with rfl | h
    · split<;>omega
    · have:=ih h
      split<;>omega
theorem jjce (cs:List Int):mnL cs=noneI∨mnL cs ∈ cs:=by
  induction cs with
  | nil=>exact .inl rfl
  | cons d cs ih=>
    simp only[mnL];split
    · exact .inr List.mem_cons_self
    · rcases ih with h | h
      · exact .inl h
      · exact .inr (List.mem_cons_of_mem _ h)
theorem mnL_empty {cs:List Int}(h:∀ c ∈ cs,c<noneI):mnL cs=noneI↔cs=[]:=by
  constructor
  · intro e
    cases cs with
    | nil=>rfl
    | cons c cs=>
      have h1:=jjci (cs:=c::cs) (c:=c) List.mem_cons_self;have h2:=h c List.mem_cons_self;omega
  · rintro rfl;rfl
theorem mnL_snoc (cs:List Int)(c:Int)(h:c≤noneI):mnL (cs++[c])=if c<mnL cs then c else mnL cs:=by
  induction cs with
  | nil=>
    simp only[List.nil_append,mnL]
  | cons d cs ih=>
    simp only[List.cons_append,mnL];rw[ih];repeat' split
    all_goals omega
theorem mnL_one {cs:List Int}{m:Int}(h0:m≤noneI)(h1:∀ c ∈ cs,m≤c)(h2:m ∈ cs∨(m=noneI∧cs=[])):mnL cs=m:=by
 rcases h2 with h2 | ⟨rfl,rfl⟩
 ·have h3:=jjci h2
  rcases jjce cs with h | h
  ·have:=h1 m h2
   have:=mnL_none cs;omega
  ·have:=h1 _ h
   omega
 ·rfl
def cosL (l:List St)(S:List Int)(i o:Int)(p:Nat):List Int:=(List.range l.length).flatMap fun q=>if el S q=noneI then[] else((el l q).2.filter fun a=>decide (a.1=i)&&decide (a.2.1=o)&&decide (a.2.2.2=(p:Int))).map fun a=>el S q+a.2.2.1
theorem mem_cosL {l:List St}{S:List Int}{i o:Int}{p:Nat}{c:Int}:c ∈ cosL l S i o p↔∃ q,q<l.length∧el S q≠noneI∧∃ a ∈ (el l q).2,a.1=i∧a.2.1=o∧a.2.2.2=(p:Int)∧c=el S q+a.2.2.1:=by
 unfold cosL;rw[List.mem_flatMap];constructor
 ·rintro ⟨q,hq,h⟩
  rw[List.mem_range]at hq;by_cases e:el S q=noneI
  ·rw [if_pos e]at h;cases h
  ·rw [if_neg e]at h
   obtain⟨a,ha,rfl⟩:=List.mem_map.1 h
   rw[List.mem_filter]at ha;simp only[Bool.and_eq_true,decide_eq_true_eq]at ha;exact⟨q,hq,e,a,ha.1,ha.2.1.1,ha.2.1.2,ha.2.2,rfl⟩
 ·rintro ⟨q,hq,e,a,ha,h1,h2,h3,rfl⟩
  refine⟨q,List.mem_range.2 hq,?_⟩
  rw[if_neg e];refine List.mem_map.2 ⟨a,List.mem_filter.2 ⟨ha,?_⟩,rfl⟩
  simp[h1,h2,h3]
def behL (l:List St)(S:List Int)(i o:Int):List Int:=(List.range l.length).map fun p=>mnL (cosL l S i o p)
def subS (N:List Int)(w:Int):List Int:=N.map fun c=>if c=noneI then noneI else c-w
def ddR (p:Int × Int):List (Int × Int)→List (Int × Int)
 | []=>[]
 | q::qs=>if q=p then ddR q qs else q::ddR q qs
def ddL :List (Int × Int)→List (Int × Int)
 | []=>[]
 | p::ps=>p::ddR p ps
def allA (l:List St)(S:List Int):List Ar:=(List.range l.length).flatMap fun q=>if el S q=noneI then[] else(el l q).2
def prsL (l:List St)(S:List Int):List (Int × Int):=ddL ((sortL (allA l S)).map fun a=>(a.1,a.2.1))
def ltP (p q:Int × Int):Prop:=p.1<q.1∨p.1=q.1∧p.2<q.2
def leP (p q:Int × Int):Prop:=p.1<q.1∨p.1=q.1∧p.2≤q.2
theorem ddR_mem {p:Int × Int}{l:List (Int × Int)}{x:Int × Int}:x ∈ p::ddR p l↔x ∈ p::l:=by
  induction l generalizing p with
  | nil=>rfl
  | cons q qs ih=>
    simp only[ddR];split
    · rename_i e
      subst e;rw[ih];simp
    · have:=ih (p:=q)
      simp only[List.mem_cons]at this ⊢;rw[this]
theorem ddL_mem {l:List (Int × Int)}{x:Int × Int}:x ∈ ddL l↔x ∈ l:=by
 cases l with
 | nil=>rfl
 | cons p l=>exact ddR_mem
theorem ddR_pair {p:Int × Int}{l:List (Int × Int)}(h:(p::l).Pairwise leP):(p::ddR p l).Pairwise ltP:=by
  induction l generalizing p with
  | nil=>simp [ddR]
  | cons q qs ih=>
    rw[List.pairwise_cons]at h;simp only[ddR];split
    · rename_i e
      subst e;exact ih h.2
    · rename_i e
      have hq:=ih h.2;rw[List.pairwise_cons];refine⟨fun x hx=>?_,hq⟩
      have h1:=h.1 q List.mem_cons_self;have h2:ltP p q:=by
        rcases h1 with g | ⟨g1,g2⟩
        · exact .inl g
        · refine .inr ⟨g1,?_⟩
          have:p.2≠q.2:=fun k=>e (Prod.ext g1.symm k.symm)
          omega
      rcases List.mem_cons.1 hx with rfl | hx
      · exact h2
      · have h3:=(List.pairwise_cons.1 hq).1 x hx
        unfold ltP at h2 h3 ⊢;omega
theorem mem_allA {l:List St}{S:List Int}{a:Ar}:a ∈ allA l S↔∃ q,q<l.length∧el S q≠noneI∧a ∈ (el l q).2:=by
 unfold allA;rw[List.mem_flatMap];constructor
 ·rintro ⟨q,hq,h⟩
  by_cases e:el S q=noneI
  ·rw [if_pos e]at h;cases h
  ·rw [if_neg e]at h;exact⟨q,List.mem_range.1 hq,e,h⟩
 ·rintro ⟨q,hq,e,h⟩
  exact⟨q,List.mem_range.2 hq,by rw[if_neg e];exact h⟩
theorem mem_prsL {l:List St}{S:List Int}{p:Int × Int}:p ∈ prsL l S↔∃ q,q<l.length∧el S q≠noneI∧∃ a ∈ (el l q).2,(a.1,a.2.1)=p:=by
 unfold prsL;rw[ddL_mem,List.mem_map];constructor
 ·rintro ⟨a,ha,e⟩
  rw[(jjb2 _).mem_iff,mem_allA]at ha;obtain⟨q,h1,h2,h3⟩:=ha
  exact⟨q,h1,h2,a,h3,e⟩
 ·rintro ⟨q,h1,h2,a,h3,e⟩
  exact⟨a,(jjb2 _).mem_iff.2 (mem_allA.2 ⟨q,h1,h2,h3⟩),e⟩
theorem prsL_pair (l:List St)(S:List Int):(prsL l S).Pairwise ltP:=by
  unfold prsL;have h:((sortL (allA l S)).map fun a=>(a.1,a.2.1)).Pairwise leP:=by
    rw[List.pairwise_map];refine(jjbq _).imp fun {a b} h=>?_
    simp only[leB,Bool.not_eq_true',jja3]at h;unfold leP;simp only;omega
  cases e:(sortL (allA l S)).map fun a=>(a.1,a.2.1)with
  | nil=>simp [ddL]
  | cons p ps=>
    rw[e]at h;exact ddR_pair h
theorem ltP_one :∀ {l r:List (Int × Int)},l.Pairwise ltP→r.Pairwise ltP→(∀ p,p ∈ l↔p ∈ r)→l=r
  | [],[],_,_,_=>rfl
  | [],q::r,_,_,h=>by have:=(h q).2 List.mem_cons_self;cases this
  | p::l,[],_,_,h=>by have:=(h p).1 List.mem_cons_self;cases this
  | p::l,q::r,hl,hr,h=>by
    rw[List.pairwise_cons]at hl hr;have e:p=q:=by
      rcases List.mem_cons.1 ((h p).1 List.mem_cons_self)with e | e
      · exact e
      · rcases List.mem_cons.1 ((h q).2 List.mem_cons_self)with g | g
        · exact g.symm
        · have h1:=hr.1 p e
          have h2:=hl.1 q g;unfold ltP at h1 h2;omega
    subst e;congr 1
    refine ltP_one hl.2 hr.2 fun x=>?_
    have h1:∀ y,y ∈ l→y≠p:=fun y hy e=>by
      have h1:=hl.1 y hy;rw[e]at h1;unfold ltP at h1;omega
    have h2:∀ y,y ∈ r→y≠p:=fun y hy e=>by
      have h1:=hr.1 y hy;rw[e]at h1;unfold ltP at h1;omega
    constructor
    · intro hx
      rcases List.mem_cons.1 ((h x).1 (List.mem_cons_of_mem _ hx))with g | g
      · exact absurd g (h1 x hx)
      · exact g
    · intro hx
      rcases List.mem_cons.1 ((h x).2 (List.mem_cons_of_mem _ hx))with g | g
      · exact absurd g (h2 x hx)
      · exact g
theorem prsL_one {l:List St}{S:List Int}{r:List (Int × Int)}(hr:r.Pairwise ltP)(h:∀ p,p ∈ r↔∃ q,q<l.length∧el S q≠noneI∧∃ a ∈ (el l q).2,(a.1,a.2.1)=p):r=prsL l S:=
 ltP_one hr (prsL_pair l S) fun p=>(h p).trans mem_prsL.symm
def fnsL (l:List St)(S:List Int):List Int:=(List.range l.length).flatMap fun q=>if el S q=noneI∨(el l q).1=1000000001 then[] else[el S q+(el l q).1]
theorem mem_fnsL {l:List St}{S:List Int}{c:Int}:c ∈ fnsL l S↔∃ q,q<l.length∧el S q≠noneI∧(el l q).1≠1000000001∧c=el S q+(el l q).1:=by
 unfold fnsL;rw[List.mem_flatMap];constructor
 ·rintro ⟨q,hq,h⟩
  by_cases e:el S q=noneI∨(el l q).1=1000000001
  ·rw [if_pos e]at h;cases h
  ·rw [if_neg e]at h
   simp only[List.mem_singleton]at h;exact⟨q,List.mem_range.1 hq,fun g=>e (.inl g),fun g=>e (.inr g),h⟩
 ·rintro ⟨q,hq,h1,h2,rfl⟩
  exact⟨q,List.mem_range.2 hq,by rw[if_neg (fun g=>g.elim h1 h2)];simp⟩
def finC (l:List St)(S:List Int):Int × Int:=(tldN (mnL (fnsL l S)),tldE (mnL (fnsL l S)))
def hopC (l:List St)(S:List Int)(p:Int × Int):Hg (List Int):=(p.1,p.2,mnL (behL l S p.1 p.2),subS (behL l S p.1 p.2) (mnL (behL l S p.1 p.2)))
def hopsC (l:List St)(S:List Int):List (Hg (List Int)):=(prsL l S).map (hopC l S)
def iniS (n z:Nat):List Int:=(List.replicate n noneI).set z 0
def cerA (m:Mc):Mc × Int:=if faultM m≠0 then((0,[]),faultM m) else if empB m.2=true then((0,[]),7) else if m.1<0 then((-1,[]),0) else numA (finC m.2) (hopsC m.2) (iniS m.2.length m.1.toNat)
abbrev Tr :Type:=Int × Int × Int
abbrev Hp :Type:=Int × Int × Int × Tr
def hopM (x y:Ar):Hp:=(x.1,y.2.1,x.2.2.1+y.2.2.1,x.2.2.2,y.2.2.2,0)
def hopL (x:Ar)(b:Int):Hp:=(x.1,0,x.2.2.1,x.2.2.2,b,1)
def hopR (y:Ar)(a:Int):Hp:=(0,y.2.1,y.2.2.1,a,y.2.2.2,2)
def metB (x y:Ar)(f:Int):Bool:=x.2.1==y.1&&(decide (0<x.2.1)||f==0)
def expX (r:List Ar)(b f:Int)(x:Ar):List Hp:=(r.filter (metB x · f)).map (hopM x)++(if x.2.1=0∧f≠2 then[hopL x b] else[])
def expL (l r:List Ar)(t:Tr):List Hp:=l.flatMap (expX r t.2.1 t.2.2)++(if t.2.2≠1 then(r.filter (fun y=>y.1==0)).map (hopR · t.1) else[])
inductive Hops (la lb:List St)(za zb:Nat):List Int→List Int→Nat→Nat→Int→Nat→Prop
 | nil:Hops la lb za zb [] [] za zb 0 0
 | snoc {u v:List Int} {p q c:Nat} {f:Int} (h:Hops la lb za zb u v p q f c) {k:Hp} (hk:k ∈ expL (el la p).2 (el lb q).2 ((p:Int),(q:Int),f)) {s t:Nat} (hs:k.2.2.2.1=(s:Int)) (ht:k.2.2.2.2.1=(t:Int)):
  Hops la lb za zb (u++lab k.1) (v++lab k.2.1) s t k.2.2.2.2.2 (c+k.2.2.1.toNat)
inductive WayO (l:List St)(z:Nat):List Int→List Int→Nat→Nat→Nat→Nat→Prop
 | nil:WayO l z [] [] z 0 0 0
 | emp {u v:List Int} {p c i n:Nat} (h:WayO l z u v p c i n) {a:Ar} (ha:a ∈ (el l p).2) {t:Nat} (ht:a.2.2.2=(t:Int)) (h0:a.2.1=0):WayO l z (u++lab a.1) v t (c+a.2.2.1.toNat) (i+1) (n+1)
 | lab {u v:List Int} {p c i n:Nat} (h:WayO l z u v p c i n) {a:Ar} (ha:a ∈ (el l p).2) {t:Nat} (ht:a.2.2.2=(t:Int)) (h0:a.2.1≠0):WayO l z (u++lab a.1) (v++[a.2.1]) t (c+a.2.2.1.toNat) 0 (n+1)
inductive WayI (l:List St)(z:Nat):List Int→List Int→Nat→Nat→Nat→Nat→Prop
 | nil:WayI l z [] [] z 0 0 0
 | emp {u v:List Int} {p c i n:Nat} (h:WayI l z u v p c i n) {a:Ar} (ha:a ∈ (el l p).2) {t:Nat} (ht:a.2.2.2=(t:Int)) (h0:a.1=0):WayI l z u (v++lab a.2.1) t (c+a.2.2.1.toNat) (i+1) (n+1)
 | lab {u v:List Int} {p c i n:Nat} (h:WayI l z u v p c i n) {a:Ar} (ha:a ∈ (el l p).2) {t:Nat} (ht:a.2.2.2=(t:Int)) (h0:a.1≠0):WayI l z (u++[a.1]) (v++lab a.2.1) t (c+a.2.2.1.toNat) 0 (n+1)
def bothI (a b:Int):Int:=if a=1000000001∨b=1000000001 then 1000000001 else a+b
def trB (a b:Mc)(t:Tr):Bool:=inB t.1 0 ((a.2.length:Int)-1)&&inB t.2.1 0 ((b.2.length:Int)-1)&&inB t.2.2 0 2
def finTr (a b:Mc)(t:Tr):Int:=bothI (el a.2 t.1.toNat).1 (el b.2 t.2.1.toNat).1
def expT (a b:Mc)(t:Tr):List Hp:=expL (el a.2 t.1.toNat).2 (el b.2 t.2.1.toNat).2 t
def expO (a b:Mc)(t:Tr):Bool:=((el a.2 t.1.toNat).1 !=1000000001&&(el b.2 t.2.1.toNat).1 !=1000000001&&decide (1000000000<(el a.2 t.1.toNat).1+(el b.2 t.2.1.toNat).1))||(expT a b t).any (fun h=>decide (1000000000<h.2.2.1))
def expE (a b:Mc)(t:Tr):Int:=if faultM a≠0 then faultM a else if faultM b≠0 then faultM b else if trB a b t=false then 13 else if expO a b t=true then 4 else 0
def arcTr (L:List Tr)(h:Hp):Ar:=(h.1,h.2.1,h.2.2.1,(L.idxOf h.2.2.2:Int))
structure CmpI (a b:Mc)(q:Nat)(L:List Tr)(S:List St):Prop where
 nodup:L.Nodup
 le:q≤L.length
 len:S.length=q
 start:∃ E,L=(a.1,b.1,0)::E
 right:∀ i,i<q→expE a b (el L i)=0
 shut:∀ i,i<q→∀ h ∈ expT a b (el L i),h.2.2.2 ∈ L
 sts:∀ i,i<q→el S i=(finTr a b (el L i),(expT a b (el L i)).map (arcTr L))
theorem jjcf {m:Mc}(hf:faultM m=0){p:Nat}(hp:p<m.2.length)(hn:(el m.2 p).1≠1000000001):0≤(el m.2 p).1∧(el m.2 p).1≤1000000000:=by
 have h1:=stB_fin ((jjag hf).2 _ (jjac hp));simp[finB,inB]at h1;omega
def DstAns (m:Mc)(P:Nat→Nat→Prop)(vs:List Int)(ec:Int):Prop:=(faultM m≠0∧vs=[]∧ec=faultM m)∨(faultM m=0∧LstAns P m.2.length vs ec)
theorem DstAns.one {m:Mc}{P:Nat→Nat→Prop}{vs ws:List Int}{e f:Int}(h:DstAns m P vs e)(k:DstAns m P ws f):vs=ws∧e=f:=by
 rcases h with⟨h0,h1,h2⟩ | ⟨h0,h1⟩<;>rcases k with⟨k0,k1,k2⟩ | ⟨k0,k1⟩
 ·exact ⟨h1.trans k1.symm,h2.trans k2.symm⟩
 ·exact absurd k0 h0
 ·exact absurd h0 k0
 ·exact h1.one k1
theorem DstAns.len {m:Mc}{P:Nat→Nat→Prop}{vs:List Int}(h:DstAns m P vs 0):vs.length=m.2.length∧ -1≤m.1∧m.1≤(m.2.length:Int)-1:=by
 rcases h with⟨h0,h1,h2⟩ | ⟨h0,h1⟩
 ·exact absurd h2.symm h0
 ·rcases h1 with⟨_,h2,_⟩ | ⟨h2,_⟩
  ·exact ⟨h2,(jjag h0).1⟩
  ·exact absurd h2 (by decide)
def placeL' (x:Int):Nat→List Int→Int
 | _,[]=> -1
 | i,k::l=>if k=x then(i:Int) else placeL' x (i+1) l
def placeI (ks:List Int)(x:Int):Int:=placeL' x 0 ks
theorem placeL'_at {x:Int}{ks:List Int}{i k:Nat}(hk:k<ks.length)(h:∀ j,j<k→el ks j≠x)(e:el ks k=x):placeL' x i ks=((i+k:Nat):Int):=by
  induction ks generalizing i k with
  | nil=>simp at hk
  | cons y l ih=>
    cases k with
    | zero=>rw [jjbj]at e;simp[placeL',e]
    | succ k=>
      have h0:=h 0 (by omega);rw[jjbj]at h0;rw[placeL',if_neg h0,ih (k:=k) (by simpa using hk) (fun j hj=>by have:=h (j+1) (by omega);rwa [jjbt]at this) (by rwa [jjbt]at e)];congr 1;omega
theorem placeL'_none {x:Int}{ks:List Int}{i:Nat}(h:∀ j,j<ks.length→el ks j≠x):placeL' x i ks= -1:=by
  induction ks generalizing i with
  | nil=>rfl
  | cons y l ih=>
    have h0:=h 0 (by simp);rw[jjbj]at h0;rw[placeL',if_neg h0];exact ih (fun j hj=>by have:=h (j+1) (by simpa using hj);rwa [jjbt]at this)
theorem placeI_at {x:Int}{ks:List Int}{k:Nat}(hk:k<ks.length)(h:∀ j,j<k→el ks j≠x)(e:el ks k=x):placeI ks x=(k:Int):=by
 have:=placeL'_at (i:=0) hk h e;rwa [Nat.zero_add]at this
theorem placeI_none {x:Int}{ks:List Int}(h:∀ j,j<ks.length→el ks j≠x):placeI ks x= -1:=placeL'_none h
def keptL (a b:List Bool)(n:Nat):List Int:=((List.range n).filter fun q=>el a q&&el b q).map fun q:Nat=>(q:Int)
theorem jjcq (a b:List Bool)(n:Nat):keptL a b (n+1)=keptL a b n++(if(el a n&&el b n)=true then[(n:Int)] else[]):=by
 unfold keptL;rw[List.range_succ,List.filter_append,List.map_append];cases h:(el a n&&el b n)<;>simp [h]
theorem jjd6 (a b:List Bool)(n:Nat):(keptL a b n).length≤n:=by
 unfold keptL;rw[List.length_map];exact Nat.le_trans (List.length_filter_le _ _) (by simp)
theorem jjbo {a b:List Bool}{n:Nat}{x:Int}(h:x ∈ keptL a b n):∃ q:Nat,x=(q:Int)∧q<n∧el a q=true∧el b q=true:=by
 unfold keptL at h;simp only[List.mem_map,List.mem_filter,List.mem_range,Bool.and_eq_true]at h;obtain⟨q,⟨h1,h2,h3⟩,rfl⟩:=h
 exact⟨q,rfl,h1,h2,h3⟩
def turnA (ks:List Int)(c:Ar):Ar:=(c.1,c.2.1,c.2.2.1,placeI ks c.2.2.2)
def trimA (ks:List Int)(l:List Ar):List Ar:=(l.map (turnA ks)).filter fun c=>decide (0≤c.2.2.2)
theorem trimA_take {ks:List Int}{l:List Ar}{k:Nat}(h:k<l.length):trimA ks (l.take (k+1))=trimA ks (l.take k)++(if 0≤placeI ks (el l k).2.2.2 then[turnA ks (el l k)] else[]):=by
 unfold trimA;rw[jja0 h,List.map_append,List.filter_append];congr 1
 by_cases e:0≤placeI ks (el l k).2.2.2<;>simp [e,turnA]
theorem trimA_le (ks:List Int)(l:List Ar):(trimA ks l).length≤l.length:=by
 unfold trimA;exact Nat.le_trans (List.length_filter_le _ _) (by simp)
def trimS (l:List St)(ks:List Int)(x:Int):St:=((el l x.toNat).1,trimA ks (el l x.toNat).2)
def trimM (z:Int)(l:List St)(ks:List Int):Mc:=(placeI ks z,ks.map (trimS l ks))
def AheadC (z:Int)(l:List St)(T:Nat→Prop):Prop:=(∀ q,q<l.length→(q:Int)=z→T q)∧∀ q,q<l.length→T q→∀ a ∈ (el l q).2,T a.2.2.2.toNat
def BackC (l:List St)(T:Nat→Prop):Prop:=(∀ q,q<l.length→(el l q).1≠1000000001→T q)∧∀ q,q<l.length→∀ a ∈ (el l q).2,T a.2.2.2.toNat→T q
def Least (C:(Nat→Prop)→Prop)(n:Nat)(bs:List Bool):Prop:=bs.length=n∧C (fun q=>el bs q=true)∧∀ T,C T→∀ q,q<n→el bs q=true→T q
theorem Least.one {C:(Nat→Prop)→Prop}{n:Nat}{a b:List Bool}(ha:Least C n a)(hb:Least C n b):a=b:=by
 apply jjc2 (by rw[ha.1,hb.1])
 intro j hj;have hj':j<n:=by rw[ha.1]at hj;exact hj
 have h1:=ha.2.2 _ hb.2.1 j hj';have h2:=hb.2.2 _ ha.2.1 j hj';rw[Bool.eq_iff_iff];exact⟨h1,h2⟩
def leL (a b:List Bool):Prop:=a.length=b.length∧∀ j,j<a.length→el a j=true→el b j=true
theorem el_setB {l:List Bool}{q j:Nat}(hq:q<l.length):el (l.set q true) j=if j=q then true else el l j:=by
 by_cases h:j=q
 ·subst h;rw[if_pos rfl,jjaj (by simpa using hq)];simp
 ·rw [if_neg h];simp[el,List.getElem?_set_ne (Ne.symm h)]
structure Pass (C:(Nat→Prop)→Prop)(n:Nat)(b0 bs:List Bool)(chk:Prop):Prop where
 len:bs.length=n
 le:leL b0 bs
 sound:∀ T,C T→∀ q,q<n→el bs q=true→T q
 chk:bs=b0→chk
structure Rounds (C:(Nat→Prop)→Prop)(n k:Nat)(bs:List Bool):Prop where
 len:bs.length=n
 sound:∀ T,C T→∀ q,q<n→el bs q=true→T q
 more:C (fun q=>el bs q=true)∨k≤bs.count true
theorem el_false {n j:Nat}:el (List.replicate n false) j=false:=by
 unfold el;rw[List.getElem?_replicate];split<;>rfl
def pshA (vs:List Int)(q:Nat)(a:Ar):Ar:=(a.1,a.2.1,a.2.2.1+el vs a.2.2.2.toNat-el vs q,a.2.2.2)
def pshF (vs:List Int)(q:Nat)(f:Int):Int:=if f=1000000001 then 1000000001 else f-el vs q
def pshS (vs:List Int)(l:List St)(q:Nat):St:=(pshF vs q (el l q).1,(el l q).2.map (pshA vs q))
def pshL (vs:List Int)(l:List St):List St:=(List.range l.length).map (pshS vs l)
def pshM (vs:List Int)(m:Mc):Mc:=(m.1,pshL vs m.2)
def pshT (vs:List Int)(m:Mc):Int:=if m.1<0 then 0 else el vs m.1.toNat
def pshO (vs:List Int)(l:List St):Bool:=(List.range l.length).any fun q=>(el l q).2.any fun a=>decide (1000000000<(pshA vs q a).2.2.1)
theorem jjca (vs:List Int)(l:List St):(pshL vs l).length=l.length:=by simp[pshL]
theorem psh_el {vs:List Int}{l:List St}{q:Nat}(h:q<l.length):el (pshL vs l) q=pshS vs l q:=jjan _ h
def trmM (m:Mc)(aa bs:List Bool):Mc:=trimM m.1 m.2 (keptL aa bs m.2.length)
def PshAns (m x:Mc)(tot ec:Int):Prop:=
 (faultM m≠0∧x=(0,[])∧tot=0∧ec=faultM m)∨
 (faultM m=0∧∃ aa bs vs e,Least (AheadC m.1 m.2) m.2.length aa∧Least (BackC m.2) m.2.length bs∧DstAns (trmM m aa bs) (EndC (trmM m aa bs).2) vs e∧
  ((e≠0∧x=(0,[])∧tot=0∧ec=e)∨(e=0∧pshO vs (trmM m aa bs).2=true∧x=(0,[])∧tot=0∧ec=4)∨
   (e=0∧pshO vs (trmM m aa bs).2=false∧x=pshM vs (trmM m aa bs)∧tot=pshT vs (trmM m aa bs)∧ec=0)))
theorem PshAns.one {m x x':Mc}{t t' e e':Int}(h:PshAns m x t e)(k:PshAns m x' t' e'):x=x'∧t=t'∧e=e':=by
 rcases h with⟨h0,h1,h2,h3⟩ | ⟨h0,aa,bs,vs,f,hA,hB,hD,h⟩<;>rcases k with⟨k0,k1,k2,k3⟩ | ⟨k0,aa',bs',vs',f',kA,kB,kD,k⟩
 ·exact ⟨h1.trans k1.symm,h2.trans k2.symm,h3.trans k3.symm⟩
 ·exact absurd k0 h0
 ·exact absurd h0 k0
 ·obtain rfl:=hA.one kA
  obtain rfl:=hB.one kB
  obtain⟨rfl,rfl⟩:=hD.one kD
  rcases h with⟨h1,h2,h3,h4⟩ | ⟨h1,h5,h2,h3,h4⟩ | ⟨h1,h5,h2,h3,h4⟩<;>rcases k with⟨k1,k2,k3,k4⟩ | ⟨k1,k5,k2,k3,k4⟩ | ⟨k1,k5,k2,k3,k4⟩
  ·exact ⟨h2.trans k2.symm,h3.trans k3.symm,h4.trans k4.symm⟩
  ·exact absurd k1 h1
  ·exact absurd k1 h1
  ·exact absurd h1 k1
  ·exact ⟨h2.trans k2.symm,h3.trans k3.symm,h4.trans k4.symm⟩
  ·rw [h5]at k5;cases k5
  ·exact absurd h1 k1
  ·rw [h5]at k5;cases k5
  ·exact ⟨h2.trans k2.symm,h3.trans k3.symm,h4.trans k4.symm⟩
structure Pot (l:List St)(vs:List Int):Prop where
 len:vs.length=l.length
 nn:∀ q,q<l.length→0≤el vs q∧el vs q≤1000000000
 arc:∀ q,q<l.length→∀ a ∈ (el l q).2,∃ t:Nat,a.2.2.2=(t:Int)∧t<l.length∧0≤a.2.2.1∧el vs q≤a.2.2.1+el vs t
 fin:∀ q,q<l.length→(el l q).1≠1000000001→el vs q≤(el l q).1∧(el l q).1≤1000000000
theorem Pot.way {l:List St}{vs:List Int}(h:Pot l vs){q p c:Nat}{u v:List Int}(hq:q<l.length)(hw:Way l q u v p c):
    p<l.length∧∃ c':Nat,Way (pshL vs l) q u v p c'∧(c':Int)+el vs q=(c:Int)+el vs p:=by
  induction hw with
  | nil=>exact ⟨hq,0,.nil,by omega⟩
  | snoc hw ha ht ih=>
    rename_i u v p c a t
    obtain⟨hp,c',h1,h2⟩:=ih
    obtain⟨t',e1,e2,e3,e4⟩:=h.arc p hp a ha
    have:t=t':=by omega
    subst this;have hm:pshA vs p a ∈ (el (pshL vs l) p).2:=by
      rw[psh_el hp];exact List.mem_map_of_mem ha
    have h3:=h1.snoc hm (t:=t) ht;refine⟨e2,_,h3,?_⟩
    have e5:(pshA vs p a).2.2.1=a.2.2.1+el vs t-el vs p:=by simp only[pshA];rw[ht,Int.toNat_natCast]
    rw[e5];omega
theorem Pot.back {l:List St}{vs:List Int}(h:Pot l vs){q p c':Nat}{u v:List Int}(hq:q<l.length)(hw:Way (pshL vs l) q u v p c'):
    p<l.length∧∃ c:Nat,Way l q u v p c∧(c':Int)+el vs q=(c:Int)+el vs p:=by
  induction hw with
  | nil=>exact ⟨hq,0,.nil,by omega⟩
  | snoc hw ha ht ih=>
    rename_i u v p c a t
    obtain⟨hp,c',h1,h2⟩:=ih
    rw[psh_el hp]at ha;obtain⟨b,hb,rfl⟩:=List.mem_map.1 ha
    obtain⟨t',e1,e2,e3,e4⟩:=h.arc p hp b hb
    have ht':b.2.2.2=(t:Int):=ht;have:t=t':=by omega
    subst this;have h3:=h1.snoc hb (t:=t) ht';refine⟨e2,_,h3,?_⟩
    have e5:(pshA vs p b).2.2.1=b.2.2.1+el vs t-el vs p:=by simp only[pshA];rw[ht',Int.toNat_natCast]
    rw[e5];omega
theorem Pot.costs {z:Nat}{l:List St}{vs:List Int}(h:Pot l vs)(hz:z<l.length)(x y:List Int)(c:Nat):Costs (pshM vs ((z:Int),l)) x y c↔∃ d,Costs ((z:Int),l) x y d∧(d:Int)=(c:Int)+el vs z:=by
 have hl:(pshM vs ((z:Int),l)).2.length=l.length:=jjca vs l;constructor
 ·rintro ⟨h0,p,d,hw,hp,hf,rfl⟩
  rw[hl]at hp;have hw':Way (pshL vs l) z x y p d:=by simpa [pshM] using hw
  obtain⟨_,c,h1,h2⟩:=h.back hz hw'
  have e1:(el (pshM vs ((z:Int),l)).2 p).1=pshF vs p (el l p).1:=by simp only[pshM];rw[psh_el hp];rfl
  have hf':(el l p).1≠1000000001:=fun e=>hf (by rw[e1,e];rfl)
  obtain⟨f1,f2⟩:=h.fin p hp hf'
  have f3:=(h.nn p hp).1;refine⟨c+(el l p).1.toNat,⟨by simp,p,c,by simpa using h1,hp,hf',rfl⟩,?_⟩
  rw[e1];simp only[pshF,if_neg hf'];omega
 ·rintro ⟨d,⟨h0,p,c0,hw,hp,hf,rfl⟩,e⟩
  have hw':Way l z x y p c0:=by simpa using hw
  obtain⟨_,c',h1,h2⟩:=h.way hz hw'
  have e1:(el (pshM vs ((z:Int),l)).2 p).1=pshF vs p (el l p).1:=by simp only[pshM];rw[psh_el hp];rfl
  obtain⟨f1,f2⟩:=h.fin p hp hf
  have f3:=(h.nn p hp).1;have f4:=(h.nn p hp).2;refine⟨by simp[pshM],p,c',by simpa [pshM] using h1,by rw[hl];exact hp,?_,?_⟩
  ·rw [e1]
   simp only[pshF,if_neg hf];intro e3;omega
  ·rw [e1]
   simp only[pshF,if_neg hf];have:(el l p).1≠1000000001:=hf;simp only at e;omega
theorem jja4 (a b:List Bool)(n:Nat):(keptL a b n).Pairwise (· < ·):=by
 unfold keptL;rw[List.pairwise_map];refine(List.Pairwise.filter _ (List.pairwise_lt_range (n:=n))).imp ?_
 intro x y h;omega
theorem keptL_iff {a b:List Bool}{n q:Nat}:(q:Int) ∈ keptL a b n↔q<n∧el a q=true∧el b q=true:=by
 constructor
 ·intro h
  obtain⟨p,h1,h2,h3,h4⟩:=jjbo h
  obtain rfl:q=p:=by omega
  exact⟨h2,h3,h4⟩
 ·rintro ⟨h1,h2,h3⟩
  unfold keptL;simp only[List.mem_map,List.mem_filter,List.mem_range,Bool.and_eq_true];exact⟨q,⟨h1,h2,h3⟩,rfl⟩
theorem jjc9 {ks:List Int}(hp:ks.Pairwise (· < ·)){i:Nat}(hi:i<ks.length):placeI ks (el ks i)=(i:Int):=by
 refine placeI_at hi (fun j hj=>?_) rfl
 have:=List.pairwise_iff_getElem.1 hp j i (by omega) hi hj;rw[jjaj hi,jjaj (by omega)];omega
theorem jjbn {ks:List Int}(hp:ks.Pairwise (· < ·)){x:Int}(h:x ∈ ks):∃ i:Nat,i<ks.length∧el ks i=x∧placeI ks x=(i:Int):=by
 obtain⟨i,hi,rfl⟩:=jja1 h
 exact⟨i,hi,rfl,jjc9 hp hi⟩
theorem jjcb {ks:List Int}{x:Int}(h:x ∉ ks):placeI ks x= -1:=placeI_none (fun _ hj e=>h (e▸jjac hj))
theorem jjb8 {ks:List Int}(hp:ks.Pairwise (· < ·)){x:Int}:0≤placeI ks x↔x ∈ ks:=by
 constructor
 ·intro h
  by_cases e:x ∈ ks
  ·exact e
  ·rw [jjcb e]at h;omega
 ·intro h
  obtain⟨i,_,_,e⟩:=jjbn hp h
  rw[e];omega
section
variable {z:Int} {l:List St} {aa bs:List Bool}
theorem jjda {ks:List Int}{i:Nat}(hi:i<ks.length):el (ks.map (trimS l ks)) i=((el l (el ks i).toNat).1,trimA ks (el l (el ks i).toNat).2):=by
 rw[jja2 hi];rfl
theorem jjfv {ks:List Int}{ar:List Ar}{c:Ar}(h:c ∈ trimA ks ar):∃ d ∈ ar,c=turnA ks d∧0≤placeI ks d.2.2.2:=by
 unfold trimA at h;simp only[List.mem_filter,List.mem_map,decide_eq_true_eq]at h;obtain⟨⟨d,hd,rfl⟩,h0⟩:=h
 exact⟨d,hd,rfl,h0⟩
theorem trimA_in {ks:List Int}{ar:List Ar}{d:Ar}(hd:d ∈ ar)(h0:0≤placeI ks d.2.2.2):turnA ks d ∈ trimA ks ar:=by
 unfold trimA;simp only[List.mem_filter,List.mem_map,decide_eq_true_eq];exact⟨⟨d,hd,rfl⟩,h0⟩
theorem el_true {n j:Nat}:el (List.replicate n true) j=true↔j<n:=by
 unfold el;rw[List.getElem?_replicate];split
 ·rename_i h;simp[h]
 ·rename_i h;simp[h]
theorem jjdi (hf:faultM (z,l)=0){q:Nat}(hq:q<l.length){d:Ar}(hd:d ∈ (el l q).2):∃ t:Nat,d.2.2.2=(t:Int)∧t<l.length:=by
 have h:=List.all_eq_true.1 (jjbv hf hq).2 d hd;simp only[arcB,inB,Bool.and_eq_true,decide_eq_true_eq]at h;exact⟨d.2.2.2.toNat,by omega,by omega⟩
theorem trim_ahead (hf:faultM (z,l)=0)(hA:Least (AheadC z l) l.length aa)(hB:Least (BackC l) l.length bs)(T:Nat→Prop)(hT:AheadC (placeI (keptL aa bs l.length) z) ((keptL aa bs l.length).map (trimS l (keptL aa bs l.length))) T):
  ∀ i,i<(keptL aa bs l.length).length→T i:=by
 have hp:=jja4 aa bs l.length;have hk:∀ q,q<l.length→el aa q=true→el bs q=true→∃ i:Nat,i<(keptL aa bs l.length).length∧el (keptL aa bs l.length) i=(q:Int)∧placeI (keptL aa bs l.length) (q:Int)=(i:Int):=fun q hq h1 h2=>jjbn hp (keptL_iff.2 ⟨hq,h1,h2⟩)
 have key:∀ q,q<l.length→el aa q=true→(el aa q=true∧(el bs q=true→T (placeI (keptL aa bs l.length) (q:Int)).toNat)):=by
  refine hA.2.2 (fun q=>el aa q=true∧(el bs q=true→T (placeI (keptL aa bs l.length) (q:Int)).toNat)) ⟨?_,?_⟩
  ·intro q hq hz
   have h1:=hA.2.1.1 q hq hz;refine⟨h1,fun h2=>?_⟩
   obtain⟨i,hi,_,e⟩:=hk q hq h1 h2
   rw[e];refine hT.1 _ (by simpa using hi) ?_
   rw[← hz,e];simp
  ·intro q hq h9 d hd
   obtain⟨t,ht,htn⟩:=jjdi hf hq hd
   have h1:=hA.2.1.2 q hq h9.1 d hd;rw[ht]at h1 ⊢;simp only[Int.toNat_natCast]at h1 ⊢;refine⟨h1,fun h2=>?_⟩
   have hbq:el bs q=true:=hB.2.1.2 q hq d hd (by rw[ht];simpa using h2);obtain⟨i,hi,hei,e⟩:=hk q hq h9.1 hbq
   obtain⟨j,hj,hej,e2⟩:=hk t htn h1 h2
   have h3:=h9.2 hbq;rw[e]at h3;have h4:=hT.2 i (by simpa using hi) (by simpa using h3) (turnA (keptL aa bs l.length) d) (by
    rw[jjda hi,hei]
    simp only[Int.toNat_natCast]
    exact trimA_in hd (by rw[ht,e2];omega))
   simp only[turnA]at h4;rw[ht]at h4;exact h4
 intro i hi;obtain⟨q,hq,hqn,h1,h2⟩:=jjbo (jjac hi)
 have h3:=(key q hqn h1).2 h2;rw[← hq,jjc9 hp hi]at h3;simpa using h3
end
section
variable {z:Int} {l:List St} {aa bs:List Bool}
theorem trim_back (hf:faultM (z,l)=0)(hA:Least (AheadC z l) l.length aa)(hB:Least (BackC l) l.length bs)(T:Nat→Prop)(hT:BackC ((keptL aa bs l.length).map (trimS l (keptL aa bs l.length))) T):
  ∀ i,i<(keptL aa bs l.length).length→T i:=by
 have hp:=jja4 aa bs l.length;have hk:∀ q,q<l.length→el aa q=true→el bs q=true→∃ i:Nat,i<(keptL aa bs l.length).length∧el (keptL aa bs l.length) i=(q:Int)∧placeI (keptL aa bs l.length) (q:Int)=(i:Int):=fun q hq h1 h2=>jjbn hp (keptL_iff.2 ⟨hq,h1,h2⟩)
 have key:∀ q,q<l.length→el bs q=true→(el bs q=true∧(el aa q=true→T (placeI (keptL aa bs l.length) (q:Int)).toNat)):=by
  refine hB.2.2 (fun q=>el bs q=true∧(el aa q=true→T (placeI (keptL aa bs l.length) (q:Int)).toNat)) ⟨?_,?_⟩
  ·intro q hq hz
   have h1:=hB.2.1.1 q hq hz;refine⟨h1,fun h2=>?_⟩
   obtain⟨i,hi,hei,e⟩:=hk q hq h2 h1
   rw[e];refine hT.1 _ (by simpa using hi) ?_
   rw[Int.toNat_natCast,jjda hi,hei];simpa using hz
  ·intro q hq d hd h9
   obtain⟨t,ht,htn⟩:=jjdi hf hq hd
   rw[ht]at h9;simp only[Int.toNat_natCast]at h9;have h1:el bs q=true:=hB.2.1.2 q hq d hd (by rw[ht];simpa using h9.1);refine⟨h1,fun h2=>?_⟩
   have h3:el aa t=true:=by have:=hA.2.1.2 q hq h2 d hd;rw[ht]at this;simpa using this
   obtain⟨i,hi,hei,e⟩:=hk q hq h2 h1
   obtain⟨j,hj,hej,e2⟩:=hk t htn h3 h9.1
   have h4:=h9.2 h3;rw[e2]at h4;rw[e];refine hT.2 i (by simpa using hi) (turnA (keptL aa bs l.length) d) (by
    rw[jjda hi,hei]
    simp only[Int.toNat_natCast]
    exact trimA_in hd (by rw[ht,e2];omega)) ?_
   simp only[turnA];rw[ht,e2];exact h4
 intro i hi;obtain⟨q,hq,hqn,h1,h2⟩:=jjbo (jjac hi)
 have h3:=(key q hqn h2).2 h1;rw[← hq,jjc9 hp hi]at h3;simpa using h3
theorem jjfw (s:St)(l:List St):arcN (s::l)=s.2.length+arcN l:=rfl
theorem trim_arcs (ks:List Int)(n:Nat)(hn:n≤l.length):arcN ((keptL aa bs n).map (trimS l ks))≤arcN (l.take n):=by
  induction n with
  | zero=>simp [keptL,arcN]
  | succ n ih=>
    rw[jjcq,List.map_append,jjbd,jjbf (by omega)]
    have:=ih (by omega);split
    · have h9:=trimA_le ks (el l n).2
      simp only[List.map_cons,List.map_nil,jjfw,arcN,trimS,Int.toNat_natCast];omega
    · simp only[List.map_nil,arcN]
      omega
theorem jjei (hf:faultM (z,l)=0):faultM (trimM z l (keptL aa bs l.length))=0:=by
 have hp:=jja4 aa bs l.length;have hle:=jjd6 aa bs l.length;have hsz:=jjae hf;have har:=trim_arcs (l:=l) (aa:=aa) (bs:=bs) (keptL aa bs l.length) l.length (Nat.le_refl _);rw[List.take_length]at har;have hpl:∀ x, -1≤placeI (keptL aa bs l.length) x∧placeI (keptL aa bs l.length) x≤((keptL aa bs l.length).length:Int)-1:=fun x=>by
  by_cases e:x ∈ keptL aa bs l.length
  ·obtain ⟨i,hi,_,h⟩:=jjbn hp e
   rw[h];omega
  ·rw [jjcb e];omega
 refine jjb4 ?_ ?_
 ·simp only[sizeB,trimM,Bool.and_eq_true,List.length_map]
  exact⟨decide_eq_true (by omega),decide_eq_true (by omega)⟩
 ·simp only[rangeB,trimM,Bool.and_eq_true,List.length_map,List.all_eq_true]
  refine⟨by simp only[inB,Bool.and_eq_true,decide_eq_true_eq];exact hpl z,fun s hs=>?_⟩
  obtain⟨x,hx,rfl⟩:=List.mem_map.1 hs
  obtain⟨q,rfl,hq,_,_⟩:=jjbo hx
  have h1:=jjbv hf hq;simp only[stB,trimS,Bool.and_eq_true,List.all_eq_true,Int.toNat_natCast];refine⟨h1.1,fun c hc=>?_⟩
  obtain⟨d,hd,rfl,h0⟩:=jjfv hc
  have h2:=List.all_eq_true.1 h1.2 d hd;have h3:=hpl d.2.2.2;simp only[arcB,inB,Bool.and_eq_true,decide_eq_true_eq]at h2;simp only[arcB,turnA,inB,Bool.and_eq_true];exact⟨⟨⟨⟨decide_eq_true (by omega),decide_eq_true (by omega)⟩,⟨decide_eq_true (by omega),decide_eq_true (by omega)⟩⟩,⟨decide_eq_true (by omega),decide_eq_true (by omega)⟩⟩,⟨decide_eq_true h0,decide_eq_true h3.2⟩⟩
theorem trim_ok (hm:okM (z,l)):okM (trimM z l (keptL aa bs l.length)):=by
 have hle:=jjd6 aa bs l.length;have h1:=hm.1;have h2:=hm.2;refine⟨by simp only[trimM,List.length_map]at h1 ⊢;omega,fun j hj=>?_⟩
 simp only[trimM,List.length_map]at hj ⊢;rw[jjda hj];obtain⟨q,e,hq,_,_⟩:=jjbo (jjac hj)
 rw[e]
 have:=trimA_le (keptL aa bs l.length) (el l q).2
 have:=h2 q hq;simp only[Int.toNat_natCast]at this ⊢;omega
theorem all_least {C:(Nat→Prop)→Prop}{n:Nat}(hC:C (fun q=>q<n))(h:∀ T,C T→∀ i,i<n→T i):Least C n (List.replicate n true):=
 ⟨by simp,by
  have:(fun q=>el (List.replicate n true) q=true)=fun q=>q<n:=by funext q;rw[el_true]
  rw[this];exact hC,fun T hT q hq _=>h T hT q hq⟩
theorem trim_to (hf:faultM (z,l)=0){i:Nat}(hi:i<(keptL aa bs l.length).length){c:Ar}(hc:c ∈ (el ((keptL aa bs l.length).map (trimS l (keptL aa bs l.length))) i).2):∃ t:Nat,c.2.2.2=(t:Int)∧t<(keptL aa bs l.length).length:=by
 have h:=jjdi (jjei (aa:=aa) (bs:=bs) hf) (q:=i) (by simpa [trimM] using hi) (d:=c) (by simpa [trimM] using hc);simpa using h
theorem jjf2 (hf:faultM (z,l)=0)(hA:Least (AheadC z l) l.length aa)(hB:Least (BackC l) l.length bs):
  Least (AheadC (placeI (keptL aa bs l.length) z) ((keptL aa bs l.length).map (trimS l (keptL aa bs l.length)))) (keptL aa bs l.length).length (List.replicate (keptL aa bs l.length).length true):=by
 refine all_least ⟨fun q hq _=>by simpa using hq,fun q hq h c hc=>?_⟩ (trim_ahead hf hA hB)
 obtain⟨t,h1,h2⟩:=trim_to hf (by simpa using hq) hc
 rw[h1];simpa using h2
theorem jjcx (hf:faultM (z,l)=0)(hA:Least (AheadC z l) l.length aa)(hB:Least (BackC l) l.length bs):
  Least (BackC ((keptL aa bs l.length).map (trimS l (keptL aa bs l.length)))) (keptL aa bs l.length).length (List.replicate (keptL aa bs l.length).length true):=by
 refine all_least ⟨fun q hq _=>by simpa using hq,fun q hq c hc _=>by simpa using hq⟩ (trim_back hf hA hB)
theorem kept_all (n:Nat):keptL (List.replicate n true) (List.replicate n true) n=(List.range n).map fun q:Nat=>(q:Int):=by
 unfold keptL;congr 1
 rw[List.filter_eq_self];intro q hq
 have:=el_true.2 (List.mem_range.1 hq);simp[this]
theorem place_all {n:Nat}{x:Int}(h1: -1≤x)(h2:x<n):placeI ((List.range n).map fun q:Nat=>(q:Int)) x=x:=by
 have hp:((List.range n).map fun q:Nat=>(q:Int)).Pairwise (· < ·):=by
  have:=jja4 (List.replicate n true) (List.replicate n true) n;rwa [kept_all]at this
 by_cases e:0≤x
 ·have h3:x.toNat<n:=by omega
  have:=jjc9 hp (i:=x.toNat) (by simpa using h3);rw[jjan (fun q:Nat=>(q:Int)) h3]at this;rw[show ((x.toNat:Nat):Int)=x by omega]at this;exact this
 ·rw [jjcb (by intro h;obtain⟨q,_,h9⟩:=List.mem_map.1 h;omega)]
  omega
theorem trimA_all {n:Nat}{ar:List Ar}(h:∀ a ∈ ar,∃ t:Nat,a.2.2.2=(t:Int)∧t<n):trimA ((List.range n).map fun q:Nat=>(q:Int)) ar=ar:=by
 unfold trimA;have:ar.map (turnA ((List.range n).map fun q:Nat=>(q:Int)))=ar:=by
  conv=>rhs;rw[← List.map_id ar]
  refine List.map_congr_left fun a ha=>?_
  obtain⟨t,h1,h2⟩:=h a ha
  unfold turnA;rw[h1,place_all (by omega) (by omega),← h1];rfl
 rw[this,List.filter_eq_self];intro a ha;obtain⟨t,h1,h2⟩:=h a ha
 simp[h1]
theorem trim_all (hf:faultM (z,l)=0):trimM z l (keptL (List.replicate l.length true) (List.replicate l.length true) l.length)=(z,l):=by
 rw[kept_all];unfold trimM;have hz:=(jjax hf).2;simp only[rangeB,Bool.and_eq_true,inB,decide_eq_true_eq]at hz;rw[place_all (by omega) (by omega)];congr 1
 apply jjc2 (by simp)
 intro j hj;have hj':j<l.length:=by simpa using hj
 rw[jja2 (by simpa using hj'),jjan (fun q:Nat=>(q:Int)) hj'];unfold trimS;rw[Int.toNat_natCast,trimA_all (fun a ha=>jjdi hf hj' ha)]
theorem trim_start (hA:Least (AheadC z l) l.length aa)(hB:Least (BackC l) l.length bs):placeI (keptL aa bs l.length) z<0↔(keptL aa bs l.length).length=0:=by
 have hp:=jja4 aa bs l.length;constructor
 ·intro h
  have hz:z ∉ keptL aa bs l.length:=fun h9=>by have:=(jjb8 hp).2 h9;omega
  by_cases e:(keptL aa bs l.length).length=0
  ·exact e
  ·obtain ⟨q,hq,hqn,h1,h2⟩:=jjbo (jjac (l:=keptL aa bs l.length) (j:=0) (by omega))
   have key:=hA.2.2 (fun q=>el aa q=true∧¬ el bs q=true) ⟨fun q hq h9=>?_,fun q hq h9 d hd=>?_⟩ q hqn h1
   ·exact absurd h2 key.2
   ·have h3:=hA.2.1.1 q hq h9
    exact⟨h3,fun h4=>hz (by rw[← h9];exact keptL_iff.2 ⟨hq,h3,h4⟩)⟩
   ·exact ⟨hA.2.1.2 q hq h9.1 d hd,fun h4=>h9.2 (hB.2.1.2 q hq d hd h4)⟩
 ·intro h
  have:keptL aa bs l.length=[]:=List.eq_nil_of_length_eq_zero h;rw[this,jjcb (by simp)];omega
end
end Go.Proofs.YtppkiejhhmahcaaGreatDoor.Pl
