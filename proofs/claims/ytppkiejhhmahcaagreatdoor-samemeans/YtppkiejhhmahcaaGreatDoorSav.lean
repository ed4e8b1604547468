/- Facts, joined. -/
import Derived.Test.YtppkiejhhmahcaaGreatDoorSau
import Derived.Lib.ItoaNum
import Derived.Lib.ItoaLen
set_option linter.unusedSimpArgs false
set_option linter.unusedVariables false
set_option maxRecDepth 100000
namespace Go.Proofs.YtppkiejhhmahcaaGreatDoor.Pl
theorem jjcy {z:Int}{l:List St}{aa bs:List Bool}(hf:faultM (z,l)=0)(hA:Least (AheadC z l) l.length aa)(hB:Least (BackC l) l.length bs):
    ∃ (tz:Int) (tl:List St),trimM z l (keptL aa bs l.length)=(tz,tl)∧faultM (tz,tl)=0∧(∀ a,Least (AheadC tz tl) tl.length a→a=List.replicate tl.length true)∧(∀ b,Least (BackC tl) tl.length b→b=List.replicate tl.length true)∧
      (∀ a b,Least (AheadC tz tl) tl.length a→Least (BackC tl) tl.length b→trimM tz tl (keptL a b tl.length)=(tz,tl))∧(tz<0↔tl.length=0)∧tl.length≤l.length:=by
  have hl:((keptL aa bs l.length).map (trimS l (keptL aa bs l.length))).length=(keptL aa bs l.length).length:=List.length_map _;have h1:=jjf2 hf hA hB;have h2:=jjcx hf hA hB;have h3:=jjei (aa:=aa) (bs:=bs) hf;have h4:=trim_start hA hB;rw[← hl]at h1 h2 h4;refine⟨_,_,rfl,h3,fun a ha=>ha.one h1,fun b hb=>hb.one h2,fun a b ha hb=>?_,h4,by rw[hl];exact jjd6 _ _ _⟩
  rw[ha.one h1,hb.one h2];exact trim_all h3
theorem jjbi {m:Mc}(h:faultM m=0){q:Nat}(hq:q<m.2.length){a:Ar}(ha:a ∈ (el m.2 q).2):0≤a.1∧a.1≤1000∧0≤a.2.1∧a.2.1≤1000∧0≤a.2.2.1∧a.2.2.1≤1000000000∧∃ t:Nat,a.2.2.2=(t:Int)∧t<m.2.length:=by
 obtain⟨z,l⟩:=m
 simp only at hq ha ⊢;have h1:=(jjbv h hq).2;rw[List.all_eq_true]at h1;have h2:=h1 a ha;simp only[arcB,Bool.and_eq_true,inB,decide_eq_true_eq]at h2;exact⟨by omega,by omega,by omega,by omega,by omega,by omega,a.2.2.2.toNat,by omega,by omega⟩
theorem end_all {m:Mc}(hf:faultM m=0){bs:List Bool}(hB:Least (BackC m.2) m.2.length bs){q:Nat}(hq:q<m.2.length)(h:el bs q=true):∃ c,EndC m.2 q c:=by
 refine hB.2.2 (fun q=>∃ c,EndC m.2 q c) ⟨fun q hq hn=>⟨_,0,q,0,.nil,hq,hn,rfl⟩,fun q hq a ha=>?_⟩ q hq h
 rintro⟨c,n,p,d,hr,hp,hn,rfl⟩
 obtain⟨_,_,_,_,_,_,t,e1,e2⟩:=jjbi hf hq ha
 rw[e1,Int.toNat_natCast]at hr;exact⟨_,n+1,p,a.2.2.1.toNat+d,Run.first ⟨a,ha,e1,rfl⟩ hr,hp,hn,rfl⟩
theorem pot_of {m:Mc}{vs:List Int}(hf:faultM m=0)(hall:∀ q,q<m.2.length→∃ c,EndC m.2 q c)(hD:DstAns m (EndC m.2) vs 0):Pot m.2 vs∧∀ q,q<m.2.length→LeastP (EndC m.2 q) (el vs q).toNat:=by
 have hL:vs.length=m.2.length∧∀ q,q<m.2.length→∃ c:Nat,LeastP (EndC m.2 q) c∧c≤1000000000∧el vs q=(c:Int):=by
  rcases hD with⟨h0,_⟩ | ⟨_,⟨_,h1,h2⟩ | ⟨h1,_⟩⟩
  ·exact absurd hf h0
  ·refine ⟨h1,fun q hq=>?_⟩
   rcases h2 q hq with⟨k,_⟩ | ⟨c,hc,⟨k1,k2,_⟩ | ⟨_,_,k⟩⟩
   ·obtain ⟨c,hc⟩:=hall q hq
    exact absurd hc (k c)
   ·exact ⟨c,hc,k1,k2⟩
   ·cases k
  ·cases h1
 refine⟨⟨hL.1,fun q hq=>?_,fun q hq a ha=>?_,fun q hq hn=>?_⟩,fun q hq=>?_⟩
 ·obtain ⟨c,_,h2,h3⟩:=hL.2 q hq
  omega
 ·obtain ⟨_,_,_,_,h5,_,t,e1,e2⟩:=jjbi hf hq ha
  obtain⟨c,h1,h2,h3⟩:=hL.2 q hq
  obtain⟨d,k1,k2,k3⟩:=hL.2 t e2
  refine⟨t,e1,e2,h5,?_⟩
  obtain⟨n,p,d0,hr,hp,hn,e⟩:=k1.1
  have:=h1.2 (a.2.2.1.toNat+d) ⟨n+1,p,a.2.2.1.toNat+d0,Run.first ⟨a,ha,e1,rfl⟩ hr,hp,hn,by omega⟩;omega
 ·obtain ⟨c,h1,h2,h3⟩:=hL.2 q hq
  obtain⟨f1,f2⟩:=jjcf hf hq hn
  have:=h1.2 _ ⟨0,q,0,.nil,hq,hn,rfl⟩;omega
 ·obtain ⟨c,h1,h2,h3⟩:=hL.2 q hq
  rw[h3,Int.toNat_natCast];exact h1
theorem psh_arcN (vs:List Int)(l:List St):arcN (pshL vs l)=arcN l:=by
  have key:∀ n,n≤l.length→arcN ((List.range n).map (pshS vs l))=arcN (l.take n):=by
    intro n;induction n with
    | zero=>intro _;simp[arcN]
    | succ n ih=>
      intro hn;rw[List.range_succ,List.map_append,jjbd,ih (by omega),jjbf (by omega)];simp[arcN,pshS]
  have:=key l.length (Nat.le_refl _);rwa [List.take_of_length_le (Nat.le_refl _)]at this
theorem psh_over {vs:List Int}{l:List St}(h:pshO vs l=false){q:Nat}(hq:q<l.length){a:Ar}(ha:a ∈ (el l q).2):(pshA vs q a).2.2.1≤1000000000:=by
 unfold pshO at h;rw[List.any_eq_false]at h;have h1:=h q (List.mem_range.2 hq);rw[Bool.not_eq_true,List.any_eq_false]at h1;have h2:=h1 a ha;simpa using h2
theorem psh_right {m:Mc}{vs:List Int}(hf:faultM m=0)(hP:Pot m.2 vs)(hO:pshO vs m.2=false):faultM (pshM vs m)=0:=by
 obtain⟨h1,h2⟩:=jjax hf
 refine jjb4 ?_ ?_
 ·simp only[sizeB,pshM,jjca,psh_arcN]at h1 ⊢
  exact h1
 ·simp only[rangeB,pshM,jjca,Bool.and_eq_true]at h2 ⊢
  refine⟨h2.1,?_⟩
  rw[List.all_eq_true];intro s hs;obtain⟨q,hq,rfl⟩:=List.mem_map.1 hs
  rw[List.mem_range]at hq;have g1:=hP.nn q hq;unfold stB;rw[Bool.and_eq_true];constructor
  ·simp only[pshS,pshF]
   by_cases hn:(el m.2 q).1=1000000001
   ·rw [if_pos hn];rfl
   ·rw [if_neg hn]
    have:=hP.fin q hq hn;simp[finB,inB];omega
  ·rw [List.all_eq_true]
   intro b hb;simp only[pshS]at hb;obtain⟨a,ha,rfl⟩:=List.mem_map.1 hb
   have k1:=psh_over hO hq ha;obtain⟨t,e1,e2,e3,e4⟩:=hP.arc q hq a ha
   obtain⟨r1,r2,r3,r4,_,_,_⟩:=jjbi hf hq ha
   have k2:(pshA vs q a).2.2.1=a.2.2.1+el vs t-el vs q:=by simp only[pshA];rw[e1,Int.toNat_natCast]
   have k3:=(hP.nn t e2).1;simp only[arcB,Bool.and_eq_true,inB,decide_eq_true_eq];refine⟨⟨⟨⟨r1,r2⟩,r3,r4⟩,by omega,k1⟩,?_⟩
   simp only[pshA];omega
structure SetN (n:Nat)(B:Int)(S:List Int):Prop where
 len:S.length=n
 rng:∀ q,q<n→el S q=noneI∨(0≤el S q∧el S q≤B)
theorem jjdo {n z q:Nat}(hz:z<n)(hq:q<n):el (iniS n z) q=if q=z then 0 else noneI:=by
 unfold iniS;rw[el_setT (by simpa using hz)];split
 ·rfl
 ·rw [jjaj (by simpa using hq)];simp
theorem iniS_set {n z:Nat}(hz:z<n):SetN n 0 (iniS n z):=by
 refine⟨by simp[iniS],fun q hq=>?_⟩
 rw[jjdo hz hq];split
 ·exact .inr ⟨Int.le_refl _,Int.le_refl _⟩
 ·exact .inl rfl
section
variable {m:Mc} {S:List Int} {B:Int}
theorem jjb0 {m:Mc}(hf:faultM m=0){q:Nat}(hq:q<m.2.length){a:Ar}(ha:a ∈ (el m.2 q).2):0≤a.2.2.1∧a.2.2.1≤1000000000∧∃ t:Nat,a.2.2.2=(t:Int)∧t<m.2.length:=by
 obtain⟨_,_,_,_,h5,h6,h7⟩:=jjbi hf hq ha
 exact⟨h5,h6,h7⟩
theorem cos_low (hf:faultM m=0)(hS:SetN m.2.length B S){W:Int}(hw:∀ q a,a ∈ (el m.2 q).2→a.2.2.1≤W){i o:Int}{p:Nat}{c:Int}(h:c ∈ cosL m.2 S i o p):0≤c∧c≤B+W:=by
 obtain⟨q,hq,h1,a,ha,_,_,_,rfl⟩:=mem_cosL.1 h
 have h2:=(jjb0 hf hq ha).1;have h3:=hw q a ha;rcases hS.rng q hq with h4 | h4
 ·exact absurd h4 h1
 ·omega
theorem beh_el {l:List St}{S:List Int}{i o:Int}{p:Nat}(hp:p<l.length):el (behL l S i o) p=mnL (cosL l S i o p):=jjan _ hp
theorem jjej (l:List St)(S:List Int)(i o:Int):(behL l S i o).length=l.length:=by simp[behL]
theorem sub_el {N:List Int}{w:Int}{p:Nat}(hp:p<N.length):el (subS N w) p=if el N p=noneI then noneI else el N p-w:=by
 unfold subS;rw[jjaj (by simpa using hp),List.getElem_map,← jjaj hp]
theorem jjcr (hf:faultM m=0)(hS:SetN m.2.length B S){W:Int}(hw:∀ q a,a ∈ (el m.2 q).2→a.2.2.1≤W)(hB:B+W<noneI){p:Int × Int}(hp:p ∈ prsL m.2 S):
  0≤(hopC m.2 S p).2.2.1∧(hopC m.2 S p).2.2.1≤B+W∧SetN m.2.length (B+W) (hopC m.2 S p).2.2.2∧
  (∀ t,t<m.2.length→el (hopC m.2 S p).2.2.2 t≠noneI→∃ q,q<m.2.length∧el S q≠noneI∧∃ a ∈ (el m.2 q).2,a.1=p.1∧a.2.1=p.2∧a.2.2.2=(t:Int)∧(hopC m.2 S p).2.2.1+el (hopC m.2 S p).2.2.2 t=el S q+a.2.2.1)∧
  (∀ q,q<m.2.length→el S q≠noneI→∀ a ∈ (el m.2 q).2,a.1=p.1→a.2.1=p.2→∀ t:Nat,a.2.2.2=(t:Int)→el (hopC m.2 S p).2.2.2 t≠noneI∧(hopC m.2 S p).2.2.1+el (hopC m.2 S p).2.2.2 t≤el S q+a.2.2.1):=by
 have hcl:∀ t c,c ∈ cosL m.2 S p.1 p.2 t→0≤c∧c≤B+W:=fun t c h=>cos_low hf hS hw h
 have hce:∀ t,mnL (cosL m.2 S p.1 p.2 t)=noneI∨(mnL (cosL m.2 S p.1 p.2 t) ∈ cosL m.2 S p.1 p.2 t∧0≤mnL (cosL m.2 S p.1 p.2 t)∧mnL (cosL m.2 S p.1 p.2 t)≤B+W):=fun t=>by
  rcases jjce (cosL m.2 S p.1 p.2 t)with h | h
  ·exact .inl h
  ·exact .inr ⟨h,hcl t _ h⟩
 obtain⟨N,hN⟩:∃ N,behL m.2 S p.1 p.2=N:=⟨_,rfl⟩
 have hlen:N.length=m.2.length:=by rw[← hN];exact jjej _ _ _ _
 have hel:∀ t,t<m.2.length→el N t=mnL (cosL m.2 S p.1 p.2 t):=fun t ht=>by rw[← hN];exact beh_el ht
 have hmem:∀ c ∈ N,∃ t,t<m.2.length∧c=el N t:=fun c hc=>by
  obtain⟨t,ht,e⟩:=List.getElem_of_mem hc
  exact⟨t,by omega,by rw[jjaj ht];exact e.symm⟩
 -- one of them is had
 obtain⟨q0,hq0,hs0,a0,ha0,e0⟩:=mem_prsL.1 hp
 obtain⟨_,_,t0,ht0,hl0⟩:=jjb0 hf hq0 ha0
 have hc0:el S q0+a0.2.2.1 ∈ cosL m.2 S p.1 p.2 t0:=mem_cosL.2 ⟨q0,hq0,hs0,a0,ha0,by rw[← e0],by rw[← e0],ht0,rfl⟩;have hn0:el N t0≠noneI:=by
  rw[hel t0 hl0];intro e
  have:=jjci hc0
  have:=hcl t0 _ hc0;omega
 have hin0:el N t0 ∈ N:=jjac (by omega);have hlow:∀ c ∈ N,c=noneI∨(0≤c∧c≤B+W):=fun c hc=>by
  obtain⟨t,ht,rfl⟩:=hmem c hc
  rw[hel t ht];rcases hce t with h | h
  ·exact .inl h
  ·exact .inr h.2
 have hw0:mnL N≠noneI∧0≤mnL N∧mnL N≤B+W:=by
  have h1:=jjci hin0;rcases hlow _ hin0 with h | h
  ·exact absurd h hn0
  ·rcases jjce N with g | g
   ·omega
   ·rcases hlow _ g with k | k
    ·omega
    ·exact ⟨by omega,k⟩
 unfold hopC;rw[hN];simp only;have hsel:∀ t,t<m.2.length→el (subS N (mnL N)) t=if el N t=noneI then noneI else el N t-mnL N:=fun t ht=>sub_el (by omega)
 have hmin:∀ t,t<m.2.length→el N t≠noneI→mnL N≤el N t∧el N t≤B+W:=fun t ht hn=>by
  have hin:el N t ∈ N:=jjac (by omega);rcases hlow _ hin with h | h
  ·exact absurd h hn
  ·exact ⟨jjci hin,h.2⟩
 refine⟨hw0.2.1,hw0.2.2,⟨by simp[subS,hlen],fun t ht=>?_⟩,fun t ht hn=>?_,fun q hq hs a ha e1 e2 t ht=>?_⟩
 ·rw [hsel t ht]
  by_cases g:el N t=noneI
  ·rw [if_pos g];exact .inl rfl
  ·rw [if_neg g]
   have:=hmin t ht g;exact .inr (by omega)
 ·rw [hsel t ht]at hn ⊢
  have g:el N t≠noneI:=fun g=>hn (by rw[if_pos g])
  rw[if_neg g];rcases hce t with h | h
  ·exact absurd ((hel t ht).trans h) g
  ·obtain ⟨q,h1,h2,a,h3,h4,h5,h6,h7⟩:=mem_cosL.1 h.1
   refine⟨q,h1,h2,a,h3,h4,h5,h6,?_⟩
   have:=hel t ht;omega
 ·obtain ⟨_,_,t',ht',hl'⟩:=jjb0 hf hq ha
  obtain rfl:t'=t:=by omega
  have hc:el S q+a.2.2.1 ∈ cosL m.2 S p.1 p.2 t':=mem_cosL.2 ⟨q,hq,hs,a,ha,e1,e2,ht,rfl⟩;have h1:=jjci hc;have h2:=hcl t' _ hc;have h3:=hel t' hl';have g:el N t'≠noneI:=by omega
  rw[hsel t' hl',if_neg g];exact⟨by have:=hmin t' hl' g;omega,by omega⟩
end
def bl (s:ByteArray):List UInt8:=s.data.toList
def digB (c:UInt8):Bool:=decide (48≤(c.toNat:Int)∧(c.toNat:Int)≤57)
theorem digB_true {c:UInt8}:digB c=true↔(48≤(c.toNat:Int)∧(c.toNat:Int)≤57):=by unfold digB;simp
def numV (l:List UInt8):Int:=l.foldl (fun n c=>10*n+((c.toNat:Int)-48)) 0
theorem numV_snoc (l:List UInt8)(c:UInt8):numV (l++[c])=10*numV l+((c.toNat:Int)-48):=by simp[numV]
theorem all_snoc (l:List UInt8)(c:UInt8):(l++[c]).all digB=(l.all digB&&digB c):=by simp
theorem head_app (l m:List UInt8)(h:l≠[]):(l++m).head? =l.head?:=by
 cases l with
 | nil=>exact absurd rfl h
 | cons x l=>rfl
theorem dig_nat (d:Nat)(h:d<10):(UInt8.ofNat (48+d)).toNat=48+d:=by
 rw[UInt8.toNat_ofNat'];omega
theorem dec_big (u:Nat)(h:¬ u<10):Lib.decDigits u=Lib.decDigits (u / 10)++[UInt8.ofNat (48+u % 10)]:=by rw[Lib.decDigits,dif_neg h]
theorem jjek (u:Nat):(Lib.decDigits u).all digB=true∧numV (Lib.decDigits u)=(u:Int)∧(1≤u→(Lib.decDigits u).head?≠some 48)∧1≤(Lib.decDigits u).length:=by
  induction u using Nat.strongRecOn with
  | _ u ih=>
    by_cases h:u<10
    · rw[Lib.decDigits_one h]
      have hd:=dig_nat u h;refine⟨?_,?_,?_,by simp⟩
      · rw[List.all_cons,List.all_nil,Bool.and_true]
        exact digB_true.2 (by omega)
      · have:=numV_snoc [] (UInt8.ofNat (48+u))
        rw[List.nil_append]at this;rw[this,hd];simp[numV];omega
      · intro h1 e
        have e':UInt8.ofNat (48+u)=48:=by simpa using e
        have:=congrArg UInt8.toNat e';rw[hd]at this;have h48:(48:UInt8).toNat=48:=rfl;omega
    · obtain⟨i1,i2,i3,i4⟩:=ih (u / 10) (by omega)
      have hd:=dig_nat (u % 10) (by omega);rw[dec_big u h];refine⟨?_,?_,?_,?_⟩
      · rw[all_snoc,i1,Bool.true_and]
        exact digB_true.2 (by omega)
      · rw[numV_snoc,i2,hd];omega
      · intro _
        have hne:Lib.decDigits (u / 10)≠[]:=by intro e;rw[e]at i4;simp at i4
        rw[head_app _ _ hne];exact i3 (by omega)
      · rw[List.length_append];omega
theorem dec_len :∀ (k u:Nat),u<10 ^ (k+1)→(Lib.decDigits u).length≤k+1:=by
  intro k;induction k with
  | zero=>intro u hu;rw[Lib.decDigits_one (by omega)];simp
  | succ k ih=>
    intro u hu;by_cases h:u<10
    · rw[Lib.decDigits_one h];simp
    · rw[dec_big u h,List.length_append]
      have:=ih (u / 10) (by rw[Nat.pow_succ]at hu;omega);simp;omega
theorem itoa_nat {n:Int}(h:0≤n):Lib.itoa n=Lib.decDigits n.toNat:=by unfold Lib.itoa;rw[if_neg (by omega)]
theorem cut_one (c:UInt8):∀ (x y r s:List UInt8),(∀ b ∈ x,b≠c)→(∀ b ∈ y,b≠c)→x++c::r=y++c::s→x=y∧r=s
  | [],[],r,s,_,_,h=>⟨rfl,by simpa using h⟩
  | [],b::y,r,s,_,hy,h=>by
    simp only[List.nil_append,List.cons_append,List.cons.injEq]at h;exact absurd h.1.symm (hy b List.mem_cons_self)
  | b::x,[],r,s,hx,_,h=>by
    simp only[List.nil_append,List.cons_append,List.cons.injEq]at h;exact absurd h.1 (hx b List.mem_cons_self)
  | b::x,d::y,r,s,hx,hy,h=>by
    simp only[List.cons_append,List.cons.injEq]at h;obtain⟨h1,h2⟩:=cut_one c x y r s (fun z hz=>hx z (List.mem_cons_of_mem _ hz)) (fun z hz=>hy z (List.mem_cons_of_mem _ hz)) h.2
    exact⟨by rw[h.1,h1],h2⟩
def dgT (n:Int):List UInt8:=Lib.decDigits n.toNat
theorem jjcs (n:Int):∀ b ∈ dgT n,b≠58∧b≠32:=by
 intro b hb;have h:=(jjek n.toNat).1;rw[List.all_eq_true]at h;have h1:=digB_true.1 (h b hb);constructor
 ·rintro rfl
  simp at h1
 ·rintro rfl
  simp at h1
theorem dgT_inj {a b:Int}(ha:0≤a)(hb:0≤b)(h:dgT a=dgT b):a=b:=by
 have h1:=(jjek a.toNat).2.1;have h2:=(jjek b.toNat).2.1;unfold dgT at h;rw[h]at h1;omega
theorem jjel {n:Int}(h:n≤9999999999999):(dgT n).length≤13:=dec_len 12 n.toNat (by omega)
abbrev Pa :=Int × Int
def parU (S:List Int)(k:Nat):List Pa:=(List.range k).flatMap fun q=>if el S q=noneI then[] else[((q:Int),el S q)]
def parL (S:List Int):List Pa:=parU S S.length
theorem mem_parU {S:List Int}{k:Nat}{p:Pa}:p ∈ parU S k↔∃ q:Nat,q<k∧el S q≠noneI∧p=((q:Int),el S q):=by
 unfold parU;rw[List.mem_flatMap];constructor
 ·rintro ⟨q,hq,h⟩
  rw[List.mem_range]at hq;by_cases e:el S q=noneI
  ·rw [if_pos e]at h;cases h
  ·rw [if_neg e,List.mem_singleton]at h;exact⟨q,hq,e,h⟩
 ·rintro ⟨q,hq,e,rfl⟩
  exact⟨q,List.mem_range.2 hq,by rw[if_neg e];simp⟩
theorem parU_succ (S:List Int)(k:Nat):parU S (k+1)=parU S k++(if el S k=noneI then[] else[((k:Int),el S k)]):=by
 unfold parU;rw[List.range_succ,List.flatMap_append];simp
theorem mem_parL {S:List Int}{p:Pa}:p ∈ parL S↔∃ q:Nat,q<S.length∧el S q≠noneI∧p=((q:Int),el S q):=mem_parU
theorem parL_inj {S T:List Int}(hl:S.length=T.length)(h:parL S=parL T):S=T:=by
 refine jjc2 hl fun q hq=>?_
 by_cases a:el S q=noneI
 ·by_cases b:el T q=noneI
  ·rw [a,b]
  ·exfalso
   have h1:((q:Int),el T q) ∈ parL S:=by rw[h];exact mem_parL.2 ⟨q,by omega,b,rfl⟩
   obtain⟨r,_,h2,h3⟩:=mem_parL.1 h1
   simp only[Prod.mk.injEq]at h3;have:r=q:=by omega
   subst this;exact h2 a
 ·have h1:((q:Int),el S q) ∈ parL T:=by rw[← h];exact mem_parL.2 ⟨q,hq,a,rfl⟩
  obtain⟨r,_,h2,h3⟩:=mem_parL.1 h1
  simp only[Prod.mk.injEq]at h3;have:r=q:=by omega
  subst this;exact h3.2
theorem parU_pair (S:List Int)(k:Nat):(parU S k).Pairwise fun a b=>a.1<b.1:=by
  induction k with
  | zero=>simp [parU]
  | succ k ih=>
    rw[parU_succ,List.pairwise_append];refine⟨ih,by split<;>simp,fun a ha b hb=>?_⟩
    obtain⟨q,hq,_,rfl⟩:=mem_parU.1 ha
    split at hb
    · cases hb
    · rw[List.mem_singleton]at hb
      subst hb;simp only;omega
theorem parU_len (S:List Int)(k:Nat):(parU S k).length≤k:=by
  induction k with
  | zero=>simp [parU]
  | succ k ih=>
    rw[parU_succ,List.length_append];split<;>simp<;>omega
theorem parL_len (S:List Int):(parL S).length≤S.length:=parU_len S _
theorem par_one {ps:List Pa}{S:List Int}(h1:ps.Pairwise fun a b=>a.1<b.1)(h2:∀ p,p ∈ ps↔p ∈ parL S):ps=parL S:=by
 have n1:ps.Nodup:=h1.imp fun {a b} h e=>by subst e;omega
 have n2:(parL S).Nodup:=(parU_pair S S.length).imp fun {a b} h e=>by subst e;omega
 refine List.Perm.eq_of_pairwise (le:=fun a b=>a.1<b.1) ?_ h1 (parU_pair S S.length) ((List.perm_ext_iff_of_nodup n1 n2).2 h2)
 intro a b _ _ g1 g2;omega
theorem parL_ini {n z:Nat}(hz:z<n):parL (iniS n z)=[((z:Int),0)]:=by
 refine(par_one (by simp) fun p=>?_).symm
 rw[mem_parL,List.mem_singleton];have hl:(iniS n z).length=n:=by simp[iniS]
 constructor
 ·rintro rfl
  exact⟨z,by omega,by rw[jjdo hz hz,if_pos rfl];decide,by rw[jjdo hz hz,if_pos rfl]⟩
 ·rintro ⟨q,hq,h1,rfl⟩
  rw[hl]at hq;rw[jjdo hz hq]at h1 ⊢;by_cases e:q=z
  ·rw [if_pos e,e]
  ·rw [if_neg e]at h1;exact absurd rfl h1
def SmP (n:Nat)(B:Int)(p:Pa):Prop:=0≤p.1∧p.1<n∧0≤p.2∧p.2≤B
theorem parL_sm {n:Nat}{B:Int}{S:List Int}(h:SetN n B S):∀ p ∈ parL S,SmP n B p:=fun p hp=>by
 obtain⟨q,hq,h1,rfl⟩:=mem_parL.1 hp
 rw[h.len]at hq;rcases h.rng q hq with g | g
 ·exact absurd g h1
 ·exact ⟨by simp only;omega,by simp only;omega,g.1,g.2⟩
def txP (p:Pa):List UInt8:=dgT p.1++58::(dgT p.2++[32])
def txL (l:List Pa):List UInt8:=l.flatMap txP
theorem txL_snoc (l:List Pa)(p:Pa):txL (l++[p])=(((txL l++dgT p.1)++[58])++dgT p.2)++[32]:=by
 simp[txL,txP]
theorem txL_inj :∀ {l r:List Pa},(∀ p ∈ l,0≤p.1∧0≤p.2)→(∀ p ∈ r,0≤p.1∧0≤p.2)→txL l=txL r→l=r
  | [],[],_,_,_=>rfl
  | [],q::r,_,_,h=>by
    have h9:=congrArg List.length h;simp[txL,txP]at h9
  | p::l,[],_,_,h=>by
    have h9:=congrArg List.length h;simp[txL,txP]at h9
  | p::l,q::r,hl,hr,h=>by
    have e:dgT p.1++58::(dgT p.2++32::txL l)=dgT q.1++58::(dgT q.2++32::txL r):=by simpa [txL,txP] using h
    obtain⟨h1,h2⟩:=cut_one 58 _ _ _ _ (fun b hb=>(jjcs _ b hb).1) (fun b hb=>(jjcs _ b hb).1) e
    obtain⟨h3,h4⟩:=cut_one 32 _ _ _ _ (fun b hb=>(jjcs _ b hb).2) (fun b hb=>(jjcs _ b hb).2) h2
    have hp:=hl p List.mem_cons_self;have hq:=hr q List.mem_cons_self;have e1:=dgT_inj hp.1 hq.1 h1;have e2:=dgT_inj hp.2 hq.2 h3;have e3:=txL_inj (fun x hx=>hl x (List.mem_cons_of_mem _ hx)) (fun x hx=>hr x (List.mem_cons_of_mem _ hx)) h4;rw[e3,Prod.ext e1 e2]
theorem txL_len {l:List Pa}(h:∀ p ∈ l,p.1≤9999999999999∧p.2≤9999999999999):(txL l).length≤l.length*28:=by
  induction l with
  | nil=>simp [txL]
  | cons p l ih=>
    have h1:=ih fun x hx=>h x (List.mem_cons_of_mem _ hx)
    have h2:=h p List.mem_cons_self;have h3:=jjel h2.1;have h4:=jjel h2.2;have e:txL (p::l)=txP p++txL l:=rfl;rw[e,List.length_append];simp[txP];omega
theorem drop_el {α:Type}[Inhabited α]{hs:List (Hg α)}{i:Nat}(h:i<hs.length):hs.drop i=el hs i::hs.drop (i+1):=by
 rw[List.drop_eq_getElem_cons h,jjaj h]
section
variable {α:Type} [DecidableEq α] [Inhabited α]
def hpL (hs:List (Hg α))(L:List α):Nat→List α
 | 0=>L
 | i+1=>addG (hpL hs L i) (el hs i).2.2.2
def hpA (hs:List (Hg α))(L:List α):Nat→List Ar
 | 0=>[]
 | i+1=>hpA hs L i++[arcG (hpL hs L i) (el hs i)]
theorem hpA_len (hs:List (Hg α))(L:List α):∀ i,(hpA hs L i).length=i
 | 0=>rfl
 | i+1=>by simp[hpA,hpA_len hs L i]
theorem jjfx {hs:List (Hg α)}{L:List α}(h:L.Nodup):∀ i,(hpL hs L i).Nodup
 | 0=>h
 | i+1=>jjdh (jjfx h i) _
def Fine (hs:List (Hg α))(L:List α)(n i:Nat):Prop:=∀ j,j<i→(el hs j).2.2.1≤1000000000∧n+(j+1)≤400∧(hpL hs L (j+1)).length≤60
theorem numH_at {hs:List (Hg α)}{L:List α}{n:Nat}:∀ {i:Nat},i≤hs.length→Fine hs L n i→numH hs L n=((numH (hs.drop i) (hpL hs L i) (n+i)).1,(numH (hs.drop i) (hpL hs L i) (n+i)).2.1,hpA hs L i++(numH (hs.drop i) (hpL hs L i) (n+i)).2.2):=by
  intro i;induction i with
  | zero=>intro _ _;simp[hpL,hpA]
  | succ i ih=>
    intro hi hf;obtain⟨h1,h2,h3⟩:=hf i (Nat.lt_succ_self _)
    rw[ih (by omega) (fun j hj=>hf j (by omega)),drop_el (by omega)];simp only[numH];have h3':(addG (hpL hs L i) (el hs i).2.2.2).length≤60:=h3;rw[if_neg (by omega),if_neg (by omega)];simp only[hpL,hpA,List.append_assoc,List.singleton_append,Nat.add_assoc]
variable {fin:α→Int × Int} {hops:α→List (Hg α)} {s0:α}
structure NumI (fin:α→Int × Int)(hops:α→List (Hg α))(s0:α)(q:Nat)(L:List α)(S:List St)(n:Nat):Prop where
 nodup:L.Nodup
 le:q≤L.length
 l60:L.length≤60
 n4:n≤400
 len:S.length=q
 exp:ExpI fin hops s0 q L S
 ans:numA fin hops s0=numS fin hops (61-q) q L S n
theorem NumI.init (fin:α→Int × Int)(hops:α→List (Hg α))(s0:α):NumI fin hops s0 0 [s0] [] 0:=⟨by simp,by simp,by simp,by omega,rfl,ExpI.init _ _ _,rfl⟩
variable {q:Nat} {L:List α} {S:List St} {n:Nat}
theorem NumI.stop (h:NumI fin hops s0 q L S n)(hq:¬ q<L.length):numA fin hops s0=((0,S),0):=by
 have h1:=h.le;have h2:=h.l60;rw[h.ans,show 61-q=(60-q)+1 by omega];simp only[numS];rw[if_neg hq]
theorem NumI.err (h:NumI fin hops s0 q L S n)(hq:q<L.length)(he:(fin (el L q)).2≠0):numA fin hops s0=((0,[]),(fin (el L q)).2):=by
 have h2:=h.l60;rw[h.ans,show 61-q=(60-q)+1 by omega];simp only[numS];rw[if_pos hq,if_pos he]
theorem NumI.bad (h:NumI fin hops s0 q L S n)(hq:q<L.length)(he:(fin (el L q)).2=0){ec:Int}(h0:ec≠0)(hn:(numH (hops (el L q)) L n).1=ec):numA fin hops s0=((0,[]),ec):=by
 have h2:=h.l60;rw[h.ans,show 61-q=(60-q)+1 by omega];simp only[numS];rw[if_pos hq,if_neg (fun g=>g he),hn,if_pos h0]
theorem NumI.over (h:NumI fin hops s0 q L S n)(hq:q<L.length)(he:(fin (el L q)).2=0){i:Nat}(hi:i<(hops (el L q)).length)(hf:Fine (hops (el L q)) L n i)(ho:1000000000<(el (hops (el L q)) i).2.2.1):numA fin hops s0=((0,[]),4):=by
 refine h.bad hq he (by decide) ?_
 rw[numH_at (by omega) hf,drop_el hi];simp only[numH];rw[if_pos ho]
theorem NumI.full (h:NumI fin hops s0 q L S n)(hq:q<L.length)(he:(fin (el L q)).2=0){i:Nat}(hi:i<(hops (el L q)).length)(hf:Fine (hops (el L q)) L n i)(ho:(el (hops (el L q)) i).2.2.1≤1000000000)(hx:400<n+(i+1)∨60<(hpL (hops (el L q)) L (i+1)).length):numA fin hops s0=((0,[]),5):=by
 refine h.bad hq he (by decide) ?_
 rw[numH_at (by omega) hf,drop_el hi];simp only[numH];rw[if_neg (by omega),if_pos (by simpa [hpL,Nat.add_assoc] using hx)]
theorem NumI.next (h:NumI fin hops s0 q L S n)(hq:q<L.length)(he:(fin (el L q)).2=0)(hf:Fine (hops (el L q)) L n (hops (el L q)).length):
  NumI fin hops s0 (q+1) (hpL (hops (el L q)) L (hops (el L q)).length) (S++[((fin (el L q)).1,hpA (hops (el L q)) L (hops (el L q)).length)]) (n+(hops (el L q)).length):=by
 have h2:=h.l60;have e:=numH_at (Nat.le_refl _) hf;rw[List.drop_length]at e;simp only[numH,List.append_nil]at e;have e0:(numH (hops (el L q)) L n).1=0:=by rw[e]
 have hs:=h.exp.step hq he e0;rw[e]at hs;simp only at hs;have hn:n+(hops (el L q)).length≤400:=by
  have h4:=h.n4;cases hl:(hops (el L q)).length with
  | zero=>omega
  | succ k=>have:=(hf k (by omega)).2.1;omega
 refine⟨hs.nodup,hs.le,hs.l60,hn,hs.len,hs,?_⟩
 rw[h.ans,show 61-q=(60-q)+1 by omega,show 61-(q+1)=60-q by omega];conv=>lhs;simp only[numS]
 rw[if_pos hq,if_neg (fun g=>g he),if_neg (fun g=>g e0),e]
end
end Pl
namespace Wt
open ChangeShapes WideShapes ChangeAt RowKit Maps Pl
theorem lawTx :Keyed Tryz.prog 9:=string_keyed Tryz.underlying9
theorem wfNat {n:Int}(h0:0≤n)(h:n≤100000000000000):(Lit.int .i64 n).wf=true:=by
 simp[Lit.wf,IntKind.min,IntKind.max,IntKind.signed,IntKind.bits];omega
def TxM (w:World)(m:Nat)(ks:List (List UInt8)):Prop:=
  ∃ D:DataW Unit,w.ownsMap Tryz.prog 9 (plainElem Tryz.prog 3) m ks.length D∧Maps.size D=ks.length∧
    ∀ p:List UInt8,(∀ i,i<ks.length→el ks i=p→has D (.string p)=true∧D.atKey (.string p) (.lit (.int .i64 0))= .lit (.int .i64 (i:Int)))∧(p ∉ ks→has D (.string p)=false∧D.atKey (.string p) (.lit (.int .i64 0))= .lit (.int .i64 0))
theorem TxM.lt {w:World}{m:Nat}{ks:List (List UInt8)}(h:TxM w m ks):m<w.heap.size:=by obtain⟨D,h,_⟩:=h;exact h.lt
theorem TxM.made (w:World):TxM (w.alloc (.map #[] 0)) w.heap.size []:=
 ⟨_,World.ownsMap_made w _ _ _,rfl,fun p=>⟨fun i hi=>absurd hi (by simp),fun _=>⟨rfl,by simp[DataW.atKey]⟩⟩⟩
theorem TxM.keep {w w':World}{m:Nat}{ks:List (List UInt8)}(h:TxM w m ks)(e:w'.heap[m]? =w.heap[m]?):TxM w' m ks:=by
 obtain⟨D,⟨es,clock,hb,h0⟩,h1⟩:=h
 exact⟨D,⟨es,clock,e.trans hb,h0⟩,h1⟩
theorem TxM.neBlk {w:World}{m b:Nat}{ks:List (List UInt8)}(h:TxM w m ks){cs:Array Value}{t:TypeId}(hb:Blk w b cs t):m≠b:=by
 obtain⟨D,h,_⟩:=h
 exact Ne.symm (map_ne_blk hb h)
theorem TxM.neRow {w:World}{m base:Nat}{ks:List (List UInt8)}{e:TypeId}{s:Nat}{v:Value}{n:Nat}{xs:List Value}(h:TxM w m ks)(ho:w.ownsRow base e s v n xs):some m≠v.ownBlock:=by
 obtain⟨D,⟨es,clock,hb,_⟩,_⟩:=h
 rcases ho.2 with⟨rfl,_⟩ | ⟨g,cap',cur,rfl,hbg,hg,_⟩
 ·simp [Value.ownBlock]
 ·simp only[Value.ownBlock]
  intro e2;simp at e2;subst e2;rw[hb]at hg;cases hg
theorem zeroTx (w:World):(zeroValue 3).run Tryz.prog w= .ok (.int .i64 0) w:=by kernel_rfl
theorem keyTx {p:List UInt8}(h:p.length≤1000000):keyOf Tryz.prog 9 (.string ⟨p.toArray⟩)=some (.string p):=by
 have h9:=Go.WideMaps.keyOf_string_mk (P:=Tryz.prog) Tryz.underlying9 (s:=⟨p.toArray⟩) (by show p.toArray.size≤maxLen;unfold maxLen;simp;omega);simpa using h9
theorem TxM.look {w:World}{m:Nat}{ks:List (List UInt8)}(h:TxM w m ks){p:List UInt8}(hp:p.length≤1000000):
  (∃ i,i<ks.length∧el ks i=p∧(Instr.lookup 86 (.map (some m)) (.string ⟨p.toArray⟩) true).run Tryz.prog w= .ok (.tuple #[.int .i64 (i:Int),.bool true]) w)∨
  (p ∉ ks∧(Instr.lookup 86 (.map (some m)) (.string ⟨p.toArray⟩) true).run Tryz.prog w= .ok (.tuple #[.int .i64 0,.bool false]) w):=by
 obtain⟨D,h1,_,h3⟩:=h
 have hk:=keyTx hp;obtain⟨v,ps,hr,hv⟩:=World.ownsMap.look_ok h1 lawTx Tryz.underlying86 (zeroTx w) (plainElem_int Tryz.underlying3 (by decide)) hk
 obtain⟨c,rfl,hc,_⟩:=plainElem_int_inv Tryz.underlying3 hv
 have hc':=congrArg Prod.fst hc;simp only at hc';obtain⟨g1,g2⟩:=h3 p
 by_cases he:p ∈ ks
 ·obtain ⟨i,hi,hd⟩:=jja1 he
  obtain⟨k1,k2⟩:=g1 i hi hd
  left
  refine⟨i,hi,hd,?_⟩
  rw[k2]at hc';rw[k1]at hr;injection hc' with e1
  injection e1 with _ e2
  rw[← e2]at hr;exact hr
 ·right
  rw[(g2 he).1]at hr;rw[(g2 he).2]at hc';injection hc' with e1
  injection e1 with _ e2
  rw[← e2]at hr;exact⟨he,hr⟩
theorem TxM.put {w:World}{m:Nat}{ks:List (List UInt8)}(h:TxM w m ks){p:List UInt8}(hp:p.length≤1000000)(hno:p ∉ ks)(hn:ks.length<100000):
  ∃ w',(Instr.mapUpdate 86 (.map (some m)) (.string ⟨p.toArray⟩) (.int .i64 (ks.length:Int))).run Tryz.prog w= .ok () w'∧TxM w' m (ks++[p])∧w.grownBy w' (some m):=by
 obtain⟨D,h1,h2,h3⟩:=h
 have hk:=keyTx hp;obtain⟨w',hu,ho,hg⟩:=World.ownsMap.update (R:=plainElem Tryz.prog 3) h1 lawTx Tryz.underlying86 (by unfold maxLen;omega) hk (plainElem_int Tryz.underlying3 (wfNat (n:=(ks.length:Int)) (by omega) (by omega)))
 refine⟨w',hu,⟨_,by rw[List.length_append];exact ho,?_,fun q=>?_⟩,hg⟩
 ·rw [size_put (h1.tidy lawTx),((h3 p).2 hno).1,h2]
  simp
 ·by_cases e:q=p
  ·subst e
   refine⟨fun i hi hd=>⟨has_put_same h1.isMap (lawTx.key hk) _,?_⟩,fun hq=>absurd (List.mem_append_right _ List.mem_cons_self) hq⟩
   rw[atKey_put_same h1.isMap (lawTx.key hk)];rw[List.length_append]at hi;simp at hi;by_cases ei:i<ks.length
   ·rw [jjbc ei]at hd
    exact absurd (hd▸jjac ei) hno
   ·obtain rfl:i=ks.length:=by omega
    rfl
  ·have hne:Lit.string q≠Lit.string p:=fun h=>by
    injection h with h
    exact e h
   obtain⟨g1,g2⟩:=h3 q
   refine⟨fun i hi hd=>?_,fun hq=>?_⟩
   ·rw [List.length_append]at hi
    simp at hi;by_cases ei:i<ks.length
    ·rw [jjbc ei]at hd
     obtain⟨k1,k2⟩:=g1 i ei hd
     exact⟨(has_put_other hne _).trans k1,(atKey_put_other hne _ _).trans k2⟩
    ·obtain rfl:i=ks.length:=by omega
     rw[jjbu]at hd;exact absurd hd.symm e
   ·obtain ⟨k1,k2⟩:=g2 fun hd=>hq (List.mem_append_left _ hd)
    exact⟨(has_put_other hne _).trans k1,(atKey_put_other hne _ _).trans k2⟩
theorem TxM.look_old {w:World}{m:Nat}{ks:List (List UInt8)}(h:TxM w m ks){p:List UInt8}(hp:p.length≤1000000)(hN:ks.Nodup){i:Nat}(hi:i<ks.length)(he:el ks i=p):(Instr.lookup 86 (.map (some m)) (.string ⟨p.toArray⟩) true).run Tryz.prog w= .ok (.tuple #[.int .i64 (i:Int),.bool true]) w:=by
 rcases h.look hp with⟨j,hj,hej,hr⟩ | ⟨hno,_⟩
 ·have h1:=jjb6 hN hi
  have h2:=jjb6 hN hj;rw[he]at h1;rw[hej,h1]at h2;subst h2;exact hr
 ·exact absurd (he▸jjac hi) hno
theorem TxM.look_new {w:World}{m:Nat}{ks:List (List UInt8)}(h:TxM w m ks){p:List UInt8}(hp:p.length≤1000000)(hno:p ∉ ks):(Instr.lookup 86 (.map (some m)) (.string ⟨p.toArray⟩) true).run Tryz.prog w= .ok (.tuple #[.int .i64 0,.bool false]) w:=by
 rcases h.look hp with⟨j,hj,hej,hr⟩ | ⟨_,hr⟩
 ·exact absurd (hej▸jjac hj) hno
 ·exact hr
end Go.Proofs.YtppkiejhhmahcaaGreatDoor.Wt
