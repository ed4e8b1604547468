/- Facts, joined. -/
import Derived.Test.YtppkiejhhmahcaaGreatDoorSaE
set_option linter.unusedSimpArgs false
set_option linter.unusedVariables false
set_option maxHeartbeats 3200000
set_option maxRecDepth 100000
namespace Go.Proofs.YtppkiejhhmahcaaGreatDoor.Pl
theorem arcB_mayL {n:Nat}{x:Ar}(h1:0≤x.1∧x.1≤1000)(h2:0≤x.2.1∧x.2.1≤1000)(h3:0≤x.2.2.1∧x.2.2.1≤1000000000)(h4:0≤x.2.2.2∧x.2.2.2<(n:Int)):arcB n x=true:=by
 simp only[arcB,inB,Bool.and_eq_true,decide_eq_true_eq];omega
section
variable {z:Int} {l:List St} {f:Nat→Nat}
theorem to_of (hr:faultM (z,l)=0):∀ q,q<l.length→∀ a ∈ (el l q).2,∃ t:Nat,a.2.2.2=(t:Int)∧t<l.length:=fun q hq a ha=>(jjbi (m:=(z,l)) hr hq ha).2.2.2.2.2.2
theorem FstC.lt (hf:FstC l f){q:Nat}(hq:q<l.length):f q<l.length:=Nat.lt_of_le_of_lt (hf.le q) hq
theorem FstC.idem (hf:FstC l f){q:Nat}(hq:q<l.length):f (f q)=f q:=(hf.one _ _ (hf.lt hq) hq).2 (hf.alk q hq)
theorem FstC.same (hr:faultM (z,l)=0)(hf:FstC l f){q:Nat}(hq:q<l.length):lstF l (f q)=lstF l q∧lstH l f (f q)=lstH l f q:=lst_same (to_of hr) hf (hf.lt hq) hq (hf.alk q hq)
theorem way_hops (hr:faultM (z,l)=0)(hf:FstC l f){s:Nat}(hs:s<l.length){u v:List Int}{p c:Nat}(hw:Way l s u v p c):p<l.length∧HopG (lstH l f) (f s) u v (f p) c:=by
  induction hw with
  | nil=>exact ⟨hs,.nil⟩
  | @snoc u v p c h a ha t ht ih=>
    obtain⟨hp,ih⟩:=ih
    obtain⟨t',ht',htl⟩:=to_of hr p hp a ha
    have e:t=t':=by rw[ht]at ht';omega
    subst e;refine⟨htl,?_⟩
    have hm:(a.1,a.2.1,a.2.2.1,f t) ∈ lstH l f (f p):=by
      rw[(hf.same hr hp).2];refine List.mem_map.2 ⟨a,ha,?_⟩
      rw[ht,Int.toNat_natCast]
    exact HopG.snoc ih hm
theorem hops_way (hr:faultM (z,l)=0)(hf:FstC l f){s:Nat}(hs:s<l.length){u v:List Int}{t c:Nat}(hw:HopG (lstH l f) (f s) u v t c):∃ p,p<l.length∧f p=t∧Way l s u v p c:=by
  induction hw with
  | nil=>exact ⟨s,hs,rfl,.nil⟩
  | snoc hw hh ih=>
    obtain⟨p,hp,rfl,hy⟩:=ih
    rw[(hf.same hr hp).2]at hh;obtain⟨a,ha,rfl⟩:=List.mem_map.1 hh
    obtain⟨t,ht,htl⟩:=to_of hr p hp a ha
    refine⟨t,htl,?_,hy.snoc ha ht⟩
    simp only;rw[ht,Int.toNat_natCast]
theorem lst_exp (hr:faultM (z,l)=0)(hf:FstC l f){s:Nat}(hs:s<l.length){x:Mc}(h:lstA l f s=(x,0)):x.1=0∧∃ L,ExpI (lstF l) (lstH l f) (f s) L.length L x.2∧∀ t ∈ L,t<l.length∧f t=t:=by
  obtain⟨h1,L,hE⟩:=jjfu h
  refine⟨h1,L,hE,fun t ht=>?_⟩
  obtain⟨i,hi,rfl⟩:=jja1 ht
  induction i using Nat.strongRecOn with
  | _ i ih=>
    by_cases h0:i=0
    · subst h0
      rw[hE.zero.2.1];exact⟨hf.lt hs,hf.idem hs⟩
    · obtain⟨j,k,hj,_,hk,e⟩:=hE.led i (by omega) hi
      obtain⟨hjl,_⟩:=ih j hj (by omega) (jjac (by omega))
      rw[← e];obtain⟨a,ha,rfl⟩:=List.mem_map.1 hk
      obtain⟨t,ht,htl⟩:=to_of hr _ hjl a ha
      simp only;rw[ht,Int.toNat_natCast];exact⟨hf.lt htl,hf.idem htl⟩
theorem lst_costs (hr:faultM (z,l)=0)(hf:FstC l f)(hz:0≤z)(hs:z.toNat<l.length){x:Mc}(h:lstA l f z.toNat=(x,0))(X Y:List Int)(c:Nat):Costs x X Y c↔Costs (z,l) X Y c:=by
 obtain⟨h1,L,hE,hL⟩:=lst_exp hr hf hs h
 have hlen:=hE.len;constructor
 ·rintro ⟨_,p,d,hw,hp,hn,rfl⟩
  rw[h1]at hw;obtain⟨hpL,h2⟩:=hE.way hw
  obtain⟨q,hq,e,hw2⟩:=hops_way hr hf hs h2
  have hs2:=hE.sts p hpL;have hfn:(el x.2 p).1=(el l q).1:=by
   rw[hs2];simp only;rw[← e,(hf.same hr hq).1];rfl
  rw[hfn]at hn ⊢;exact⟨hz,q,d,hw2,hq,hn,rfl⟩
 ·rintro ⟨_,p,d,hw,hp,hn,rfl⟩
  obtain⟨_,h2⟩:=way_hops hr hf hs hw
  obtain⟨i,k1,k2,hw2⟩:=hE.hopAt h2
  have hs2:=hE.sts i k1;have hfn:(el x.2 i).1=(el l p).1:=by
   rw[hs2];simp only;rw[k2,(hf.same hr hp).1];rfl
  refine⟨by omega,i,d,by rw[h1];exact hw2,by omega,by rw[hfn];exact hn,by rw[hfn]⟩
theorem lst_right (hr:faultM (z,l)=0)(hf:FstC l f){s:Nat}(hs:s<l.length){x:Mc}(h:lstA l f s=(x,0)):faultM x=0∧0<x.2.length∧x.1=0:=by
 obtain⟨h1,L,hE,hL⟩:=lst_exp hr hf hs h
 have hlen:=hE.len;have h60:=hE.l60;have h0:=hE.zero.1;have har:=numA_arcs h;refine⟨jjb4 ?_ ?_,by omega,h1⟩
 ·simp only[sizeB,Bool.and_eq_true,decide_eq_true_eq]
  exact⟨by omega,har⟩
 ·simp only[rangeB,Bool.and_eq_true,List.all_eq_true]
  refine⟨by simp only[inB,Bool.and_eq_true,decide_eq_true_eq];omega,fun s' hs'=>?_⟩
  obtain⟨i,hi,rfl⟩:=jja1 hs'
  have hiL:i<L.length:=by omega
  have hli:=(hL _ (jjac hiL)).1;rw[hE.sts i hiL];simp only[stB,Bool.and_eq_true,List.all_eq_true];refine⟨?_,fun y hy=>?_⟩
  ·have h9:=(jjag hr).2 _ (jjac hli)
   simp only[stB,Bool.and_eq_true]at h9;exact h9.1
  ·obtain ⟨g,hg,rfl⟩:=List.mem_map.1 hy
   have r3:=(jjck (hE.shut i hiL g hg)).1;obtain⟨a,ha,rfl⟩:=List.mem_map.1 hg
   obtain⟨r1,r2,r4,r5,r6,r7,_⟩:=jjbi (m:=(z,l)) hr hli ha
   refine arcB_mayL ⟨r1,r2⟩ ⟨r4,r5⟩ ⟨r6,r7⟩ ?_
   simp only[arcG];simp only at r3;omega
end
section
variable {α:Type} [DecidableEq α] [Inhabited α] {fin:α→Int × Int} {hops:α→List (Hg α)} {s0:α} {q:Nat} {L:List α} {S:List St} {n:Nat}
theorem NumI.fine (h:NumI fin hops s0 q L S n)(hq:q<L.length)(he:(fin (el L q)).2=0){x:Mc}(hx:numA fin hops s0=(x,0)):∀ i,i≤(hops (el L q)).length→Fine (hops (el L q)) L n i:=by
  intro i;induction i with
  | zero=>intro _ j hj;omega
  | succ i ih=>
    intro hi;have hf:=ih (by omega);have c1:(el (hops (el L q)) i).2.2.1≤1000000000:=by
      refine Classical.byContradiction fun g=>?_
      have h9:=h.over hq he (i:=i) (by omega) hf (by omega);rw[hx]at h9;simp at h9
    have c2:¬ (400<n+(i+1)∨60<(hpL (hops (el L q)) L (i+1)).length):=fun g=>by
      have h9:=h.full hq he (i:=i) (by omega) hf c1 g;rw[hx]at h9;simp at h9
    intro j hj;by_cases e:j<i
    · exact hf j e
    · obtain rfl:j=i:=by omega
      exact⟨c1,by omega,by omega⟩
end
structure BfsI (l:List St)(f:Nat→Nat)(s q:Nat)(L:List Nat)(S:List St)(n:Nat):Prop where
 num:NumI (lstF l) (lstH l f) (f s) q (L.map f) S n
 low:∀ t ∈ L,t<l.length
structure ArcI (l:List St)(f:Nat→Nat)(L:List Nat)(o i:Nat)(Lc:List Nat)(ar:List Ar):Prop where
 lst:Lc.map f=hpL (lstH l f o) (L.map f) i
 arc:ar=hpA (lstH l f o) (L.map f) i
 low:∀ t ∈ Lc,t<l.length
 nodup:(L.map f).Nodup
section
variable {z:Int} {l:List St} {f:Nat→Nat} {s q n o i:Nat} {L Lc:List Nat} {S:List St} {ar:List Ar}
theorem BfsI.init (hs:s<l.length):BfsI l f s 0 [s] [] 0:=⟨NumI.init _ _ _,fun t ht=>by rw[List.mem_singleton]at ht;rw[ht];exact hs⟩
theorem BfsI.l60 (h:BfsI l f s q L S n):L.length≤60∧n≤400∧S.length=q∧q≤L.length:=by
 have h1:=h.num.l60;have h2:=h.num.le;rw[List.length_map]at h1 h2;exact⟨h1,h.num.n4,h.num.len,h2⟩
theorem BfsI.stop (h:BfsI l f s q L S n)(hq:¬ q<L.length):lstA l f s=((0,S),0):=h.num.stop (by rw[List.length_map];exact hq)
theorem ArcI.init (h:BfsI l f s q L S n):ArcI l f L o 0 L []:=⟨rfl,rfl,h.low,h.num.nodup⟩
theorem BfsI.fine (hr:faultM (z,l)=0)(hf:FstC l f)(hs:s<l.length)(h:BfsI l f s q L S n)(hq:q<L.length):∀ i,i≤(el l (el L q)).2.length→Fine (lstH l f (el L q)) (L.map f) n i:=by
 obtain⟨x,hx⟩:=lst_done hr hf hs
 have hm:el (L.map f) q=f (el L q):=jja2 hq _;have hl:=h.low _ (jjac hq);have h9:=h.num.fine (by rw[List.length_map];exact hq) rfl hx;rw[hm,(hf.same hr hl).2]at h9;intro i hi;exact h9 i (by simpa [lstH] using hi)
theorem ArcI.done (hr:faultM (z,l)=0)(hf:FstC l f)(hs:s<l.length)(h:BfsI l f s q L S n)(hq:q<L.length)(ha:ArcI l f L (el L q) (el l (el L q)).2.length Lc ar):BfsI l f s (q+1) Lc (S++[((el l (el L q)).1,ar)]) (n+(el l (el L q)).2.length):=by
 have hm:el (L.map f) q=f (el L q):=jja2 hq _;have hl:=h.low _ (jjac hq);have hlen:(lstH l f (el L q)).length=(el l (el L q)).2.length:=by simp[lstH]
 have h1:=hf.same hr hl;have h9:=h.num.next (by rw[List.length_map];exact hq) rfl (by rw[hm,h1.2,hlen];exact BfsI.fine hr hf hs h hq _ (Nat.le_refl _));rw[hm,h1.2,h1.1,hlen,← ha.lst,← ha.arc]at h9;exact⟨h9,ha.low⟩
theorem ArcI.len (hr:faultM (z,l)=0)(hf:FstC l f)(hs:s<l.length)(h:BfsI l f s q L S n)(hq:q<L.length)(ha:ArcI l f L (el L q) i Lc ar)(hi:i≤(el l (el L q)).2.length):Lc.length≤60∧ar.length=i:=by
 have h1:=BfsI.fine hr hf hs h hq i hi;refine⟨?_,by rw[ha.arc,hpA_len]⟩
 have e:Lc.length=(hpL (lstH l f (el L q)) (L.map f) i).length:=by rw[← ha.lst,List.length_map]
 cases i with
 | zero=>rw [e];exact h.num.l60
 | succ i=>rw [e];exact(h1 i (Nat.lt_succ_self _)).2.2
theorem ArcI.old (ha:ArcI l f L o i Lc ar)(hi:i<(el l o).2.length){t:Nat}(ht:(el (el l o).2 i).2.2.2=(t:Int)){j:Nat}(hj:j<Lc.length)(hjt:f (el Lc j)=f t):ArcI l f L o (i+1) Lc (ar++[((el (el l o).2 i).1,(el (el l o).2 i).2.1,(el (el l o).2 i).2.2.1,(j:Int))]):=by
 have hh:el (lstH l f o) i=((el (el l o).2 i).1,(el (el l o).2 i).2.1,(el (el l o).2 i).2.2.1,f t):=by unfold lstH;rw[jja2 hi,ht,Int.toNat_natCast]
 have hnd:(Lc.map f).Nodup:=by rw[ha.lst];exact jjfx ha.nodup _
 have hel:el (Lc.map f) j=f t:=(jja2 hj _).trans hjt;have hjl:j<(Lc.map f).length:=by rw[List.length_map];exact hj
 have hm:f t ∈ Lc.map f:=by rw[← hel];exact jjac hjl
 have hx:=jjb6 hnd hjl;rw[hel]at hx;refine⟨?_,?_,ha.low,ha.nodup⟩
 ·simp only[hpL]
  rw[hh,← ha.lst,jjd4 hm]
 ·simp only[hpA]
  rw[hh,← ha.arc,← ha.lst];simp only[arcG];rw[hx]
theorem ArcI.new (ha:ArcI l f L o i Lc ar)(hi:i<(el l o).2.length){t:Nat}(ht:(el (el l o).2 i).2.2.2=(t:Int))(htl:t<l.length)(hno:∀ j,j<Lc.length→f (el Lc j)≠f t):ArcI l f L o (i+1) (Lc++[t]) (ar++[((el (el l o).2 i).1,(el (el l o).2 i).2.1,(el (el l o).2 i).2.2.1,(Lc.length:Int))]):=by
 have hh:el (lstH l f o) i=((el (el l o).2 i).1,(el (el l o).2 i).2.1,(el (el l o).2 i).2.2.1,f t):=by unfold lstH;rw[jja2 hi,ht,Int.toNat_natCast]
 have hm:f t ∉ Lc.map f:=fun g=>by
  obtain⟨j,hj,e⟩:=jja1 g
  rw[List.length_map]at hj;rw[jja2 hj]at e;exact hno j hj e
 have hx:(Lc.map f).idxOf (f t)=Lc.length:=by rw[jje3 hm,List.length_map]
 refine⟨?_,?_,fun u hu=>?_,ha.nodup⟩
 ·simp only[hpL]
  rw[hh,← ha.lst,jjd5 hm,List.map_append];rfl
 ·simp only[hpA]
  rw[hh,← ha.arc,← ha.lst];simp only[arcG];rw[hx]
 ·rcases List.mem_append.1 hu with g | g
  ·exact ha.low u g
  ·rw [List.mem_singleton]at g;rw[g];exact htl
end
def sgA (K:List Int)(a:Ar):List Int:=[a.1,a.2.1,a.2.2.1,el K a.2.2.2.toNat]
def sgN (K:List Int)(s:St):List Int:=s.1::s.2.flatMap (sgA K)
def sgT (ns:List Int):List UInt8:=ns.flatMap fun n=>dgT n++[32]
theorem sgT_snoc (l:List Int)(n:Int):sgT (l++[n])=(sgT l++dgT n)++[32]:=by simp[sgT]
theorem sgT_app (l r:List Int):sgT (l++r)=sgT l++sgT r:=by simp[sgT]
theorem sgT_inj :∀ {l r:List Int},(∀ n ∈ l,0≤n)→(∀ n ∈ r,0≤n)→sgT l=sgT r→l=r
  | [],[],_,_,_=>rfl
  | [],q::r,_,_,h=>by
    have h9:=congrArg List.length h;simp[sgT]at h9
  | p::l,[],_,_,h=>by
    have h9:=congrArg List.length h;simp[sgT]at h9
  | p::l,q::r,hl,hr,h=>by
    have e:dgT p++32::sgT l=dgT q++32::sgT r:=by simpa [sgT] using h
    obtain⟨h3,h4⟩:=cut_one 32 _ _ _ _ (fun b hb=>(jjcs _ b hb).2) (fun b hb=>(jjcs _ b hb).2) e
    have e1:=dgT_inj (hl p List.mem_cons_self) (hr q List.mem_cons_self) h3;have e3:=sgT_inj (fun x hx=>hl x (List.mem_cons_of_mem _ hx)) (fun x hx=>hr x (List.mem_cons_of_mem _ hx)) h4;rw[e3,e1]
theorem sgT_len {l:List Int}(h:∀ n ∈ l,n≤9999999999999):(sgT l).length≤l.length*14:=by
  induction l with
  | nil=>simp [sgT]
  | cons p l ih=>
    have h1:=ih fun x hx=>h x (List.mem_cons_of_mem _ hx)
    have h3:=jjel (h p List.mem_cons_self);have e:sgT (p::l)=(dgT p++[32])++sgT l:=rfl;rw[e,List.length_append,List.length_append];simp;omega
theorem sgA_len (K:List Int)(l:List Ar):(l.flatMap (sgA K)).length=l.length*4:=by
 induction l with
 | nil=>simp
 | cons a l ih=>rw [List.flatMap_cons,List.length_append,ih];simp[sgA];omega
theorem sgA_eq {K:List Int}:∀ {l r:List Ar},l.flatMap (sgA K)=r.flatMap (sgA K)↔l.map (fun a=>(a.1,a.2.1,a.2.2.1))=r.map (fun a=>(a.1,a.2.1,a.2.2.1))∧∀ i,i<l.length→el K (el l i).2.2.2.toNat=el K (el r i).2.2.2.toNat
  | [],[]=>by simp
  | [],b::r=>by simp[sgA]
  | a::l,[]=>by simp[sgA]
  | a::l,b::r=>by
    have ih:=sgA_eq (K:=K) (l:=l) (r:=r);rw[List.flatMap_cons,List.flatMap_cons,List.map_cons,List.map_cons];have e0:∀ (x:Ar) (k:List Ar),el (x::k) 0=x:=fun x k=>by simp[el]
    have eS:∀ (x:Ar) (k:List Ar) i,el (x::k) (i+1)=el k i:=fun x k i=>by simp[el]
    constructor
    · intro h
      simp only[sgA,List.cons_append,List.nil_append,List.cons.injEq]at h;obtain⟨h1,h2,h3,h4,h5⟩:=h
      obtain⟨g1,g2⟩:=ih.1 h5
      refine⟨by rw[g1,h1,h2,h3],fun i hi=>?_⟩
      cases i with
      | zero=>rw [e0,e0];exact h4
      | succ i=>rw [eS,eS];exact g2 i (by simpa using hi)
    · rintro⟨h1,h2⟩
      simp only[List.cons.injEq,Prod.mk.injEq]at h1;obtain⟨⟨k1,k2,k3⟩,k4⟩:=h1
      have g:=ih.2 ⟨k4,fun i hi=>by have h9:=h2 (i+1) (by simpa using hi);rwa [eS,eS]at h9⟩;have g0:=h2 0 (by simp);rw[e0,e0]at g0;rw[g];simp only[sgA];rw[k1,k2,k3,g0]
theorem sgN_eq {K:List Int}{s t:St}:sgN K s=sgN K t↔difB s t=false∧∀ i,i<s.2.length→el K (el s.2 i).2.2.2.toNat=el K (el t.2 i).2.2.2.toNat:=by
 unfold sgN;rw[List.cons.injEq,sgA_eq,dif_false,and_assoc]
structure Knd (l:List St)(K:List Int)(n:Nat):Prop where
 len:K.length=l.length
 rng:∀ q,q<l.length→∃ j:Nat,el K q=(j:Int)∧j<n
 onto:∀ j,j<n→∃ q,q<l.length∧el K q=(j:Int)
 ali:∀ q p,q<l.length→p<l.length→Alk l q p→el K q=el K p
 fine:∀ q p,q<l.length→p<l.length→sgN K (el l q)=sgN K (el l p)→el K q=el K p
structure Nxt (l:List St)(K F:List Int)(n:Nat):Prop where
 len:F.length=l.length
 rng:∀ q,q<l.length→∃ j:Nat,el F q=(j:Int)∧j<n
 onto:∀ j,j<n→∃ q,q<l.length∧el F q=(j:Int)
 iff:∀ q p,q<l.length→p<l.length→(el F q=el F p↔sgN K (el l q)=sgN K (el l p))
section
variable {l:List St} {K F:List Int} {n k:Nat}
theorem knd_start (h:0<l.length):Knd l (List.replicate l.length 0) 1:=by
 have e:∀ q,q<l.length→el (List.replicate l.length (0:Int)) q=0:=fun q hq=>by simp[el,hq]
 refine⟨by simp,fun q hq=>⟨0,by rw[e q hq];rfl,by omega⟩,fun j hj=>?_,fun q p hq hp _=>by rw[e q hq,e p hp],fun q p hq hp _=>by rw[e q hq,e p hp]⟩
 obtain rfl:j=0:=by omega
 exact⟨0,h,by rw[e 0 h];rfl⟩
theorem Nxt.knd (hto:∀ q,q<l.length→∀ a ∈ (el l q).2,∃ t:Nat,a.2.2.2=(t:Int)∧t<l.length)(h:Knd l K n)(x:Nxt l K F k):Knd l F k:=by
 refine⟨x.len,x.rng,x.onto,fun q p hq hp ha=>?_,fun q p hq hp hs=>?_⟩
 ·refine (x.iff q p hq hp).2 (sgN_eq.2 ⟨ha.dif,fun i hi=>?_⟩)
  obtain⟨t,ht,htl⟩:=hto q hq _ (jjac hi)
  obtain⟨u,hu,hul⟩:=hto p hp _ (jjac (by rw[← jjbs ha.dif];exact hi))
  rw[ht,hu,Int.toNat_natCast,Int.toNat_natCast];exact h.ali t u htl hul (ha.arc hi ht hu)
 ·refine (x.iff q p hq hp).2 ?_
  obtain⟨h1,h2⟩:=sgN_eq.1 hs
  refine sgN_eq.2 ⟨h1,fun i hi=>?_⟩
  have h3:=h2 i hi;obtain⟨t,ht,htl⟩:=hto q hq _ (jjac hi)
  obtain⟨u,hu,hul⟩:=hto p hp _ (jjac (by rw[← jjbs h1];exact hi))
  rw[ht,hu,Int.toNat_natCast,Int.toNat_natCast]at h3 ⊢;exact h.fine t u htl hul ((x.iff t u htl hul).1 h3)
theorem Nxt.map (h:Knd l K n)(x:Nxt l K F k):∃ g:Nat→Nat,∀ q,q<l.length→∀ j:Nat,el F q=(j:Int)→el K q=(g j:Int):=by
 have:∀ j:Nat,∃ y:Nat,∀ q,q<l.length→el F q=(j:Int)→el K q=(y:Int):=fun j=>by
  by_cases e:∃ p,p<l.length∧el F p=(j:Int)
  ·obtain ⟨p,hp,hpj⟩:=e
   obtain⟨y,hy,_⟩:=h.rng p hp
   refine⟨y,fun q hq hqj=>?_⟩
   rw[← hy];exact h.fine q p hq hp ((x.iff q p hq hp).1 (hqj.trans hpj.symm))
  ·exact ⟨0,fun q hq hqj=>absurd ⟨q,hq,hqj⟩ e⟩
 obtain⟨g,hg⟩:=Classical.axiomOfChoice this
 exact⟨g,fun q hq j hj=>hg j q hq hj⟩
theorem Nxt.more (h:Knd l K n)(x:Nxt l K F k):n≤k∧(k=n→∀ q p,q<l.length→p<l.length→el K q=el K p→el F q=el F p):=by
 obtain⟨g,hg⟩:=x.map h
 have hon:∀ j,j<n→∃ i,i<k∧g i=j:=fun j hj=>by
  obtain⟨q,hq,e⟩:=h.onto j hj
  obtain⟨i,hi,hik⟩:=x.rng q hq
  have h9:=hg q hq i hi;exact⟨i,hik,by omega⟩
 have hle:=jjcl (L:=List.range n) (U:=(List.range k).map g) List.nodup_range (fun t ht=>by
  obtain⟨i,hi,e⟩:=hon t (List.mem_range.1 ht)
  exact List.mem_map.2 ⟨i,List.mem_range.2 hi,e⟩)
 simp only[List.length_range,List.length_map]at hle;refine⟨hle,fun hk q p hq hp e=>?_⟩
 obtain⟨i,hi,hik⟩:=x.rng q hq
 obtain⟨j,hj,hjk⟩:=x.rng p hp
 have e1:=hg q hq i hi;have e2:=hg p hp j hj;refine Classical.byContradiction fun hne=>?_
 have hij:i≠j:=fun c=>hne (by rw[hi,hj,c])
 have hgij:g i=g j:=by omega
 have h2:=jjcl (L:=List.range n) (U:=((List.range k).erase i).map g) List.nodup_range (fun t ht=>by
  obtain⟨r,hr,er⟩:=hon t (List.mem_range.1 ht)
  by_cases c:r=i
  ·refine List.mem_map.2 ⟨j,(List.mem_erase_of_ne (Ne.symm hij)).2 (List.mem_range.2 hjk),?_⟩
   rw[← hgij,← c,er]
  ·exact List.mem_map.2 ⟨r,(List.mem_erase_of_ne c).2 (List.mem_range.2 hr),er⟩)
 rw[List.length_map,List.length_erase_of_mem (List.mem_range.2 hik)]at h2;simp only[List.length_range]at h2;omega
theorem Knd.few (h:Knd l K n):n≤l.length:=by
 have h2:=jjcl (L:=List.range n) (U:=K.map Int.toNat) List.nodup_range (fun t ht=>by
  obtain⟨q,hq,e⟩:=h.onto t (List.mem_range.1 ht)
  refine List.mem_map.2 ⟨el K q,jjac (by rw[h.len];exact hq),by rw[e];simp⟩)
 simpa [h.len] using h2
theorem Nxt.stop (hto:∀ q,q<l.length→∀ a ∈ (el l q).2,∃ t:Nat,a.2.2.2=(t:Int)∧t<l.length)(h:Knd l K n)(x:Nxt l K F n):∀ q p,q<l.length→p<l.length→(el K q=el K p↔Alk l q p):=by
  have hs:∀ q p,q<l.length→p<l.length→el K q=el K p→sgN K (el l q)=sgN K (el l p):=fun q p hq hp e=>(x.iff q p hq hp).1 ((x.more h).2 rfl q p hq hp e)
  intro q p hq hp;refine⟨fun e ha=>?_,h.ali q p hq hp⟩
  induction ha with
  | @now q p hd=>
    have h9:=(sgN_eq.1 (hs q p hq hp e)).1;rw[hd]at h9;cases h9
  | @step q p i t u hd hi ht hu _ ih=>
    have h9:=(sgN_eq.1 (hs q p hq hp e)).2 i hi;obtain⟨t',ht',htl⟩:=hto q hq _ (jjac hi)
    obtain⟨u',hu',hul⟩:=hto p hp _ (jjac (by rw[← jjbs hd];exact hi))
    have e1:t=t':=by rw[ht]at ht';omega
    have e2:u=u':=by rw[hu]at hu';omega
    subst e1 e2;rw[ht,hu,Int.toNat_natCast,Int.toNat_natCast]at h9;exact ih htl hul h9
end
structure KndI (l:List St)(K:List Int)(q:Nat)(ks:List (List UInt8))(F:List Int):Prop where
 nodup:ks.Nodup
 len:F.length=l.length
 few:ks.length≤q
 rng:∀ p,p<q→∃ j:Nat,el F p=(j:Int)∧j<ks.length∧el ks j=sgT (sgN K (el l p))
 onto:∀ j,j<ks.length→∃ p,p<q∧el F p=(j:Int)
section
variable {l:List St} {K F:List Int} {q:Nat} {ks:List (List UInt8)}
theorem KndI.init :KndI l K 0 [] (List.replicate l.length 0):=⟨by simp,by simp,by simp,fun p hp=>by omega,fun j hj=>by simp at hj⟩
theorem jjct {F:List Int}{q j:Nat}{x:Int}(h:q<F.length):el (F.set q x) j=if q=j then x else el F j:=by
 by_cases e:q=j
 ·subst e;rw[if_pos rfl];simp[el,h]
 ·rw [if_neg e];simp[el,List.getElem?_set_ne e]
theorem KndI.old (h:KndI l K q ks F)(hq:q<l.length){j:Nat}(hj:j<ks.length)(e:el ks j=sgT (sgN K (el l q))):KndI l K (q+1) ks (F.set q (j:Int)):=by
 have hF:=h.len;refine⟨h.nodup,by rw[List.length_set];exact hF,by have:=h.few;omega,fun p hp=>?_,fun i hi=>?_⟩
 ·rw [jjct (by omega)]
  by_cases c:q=p
  ·subst c;rw[if_pos rfl];exact⟨j,rfl,hj,e⟩
  ·rw [if_neg c];exact h.rng p (by omega)
 ·obtain ⟨p,hp,hpi⟩:=h.onto i hi
  exact⟨p,by omega,by rw[jjct (by omega),if_neg (by omega)];exact hpi⟩
theorem KndI.new (h:KndI l K q ks F)(hq:q<l.length)(e:sgT (sgN K (el l q)) ∉ ks):KndI l K (q+1) (ks++[sgT (sgN K (el l q))]) (F.set q (ks.length:Int)):=by
 have hF:=h.len;refine⟨?_,by rw[List.length_set];exact hF,by have:=h.few;simp;omega,fun p hp=>?_,fun i hi=>?_⟩
 ·rw [List.nodup_append]
  refine⟨h.nodup,by simp,fun x hx y hy c=>?_⟩
  rw[List.mem_singleton]at hy;exact e (by rw[← hy,← c];exact hx)
 ·rw [jjct (by omega)]
  by_cases c:q=p
  ·subst c;rw[if_pos rfl];exact⟨ks.length,rfl,by simp,jjbu _ _⟩
  ·rw [if_neg c]
   obtain⟨j,h1,h2,h3⟩:=h.rng p (by omega)
   exact⟨j,h1,by simp;omega,by rw[jjbc h2];exact h3⟩
 ·rw [List.length_append]at hi
  simp at hi;by_cases c:i<ks.length
  ·obtain ⟨p,hp,hpi⟩:=h.onto i c
   exact⟨p,by omega,by rw[jjct (by omega),if_neg (by omega)];exact hpi⟩
  ·obtain rfl:i=ks.length:=by omega
   exact⟨q,by omega,by rw[jjct (by omega),if_pos rfl]⟩
theorem KndI.done (h:KndI l K l.length ks F)(hpos:∀ q,q<l.length→∀ n ∈ sgN K (el l q),0≤n):Nxt l K F ks.length:=by
 refine⟨h.len,fun q hq=>?_,h.onto,fun q p hq hp=>?_⟩
 ·obtain ⟨j,h1,h2,_⟩:=h.rng q hq
  exact⟨j,h1,h2⟩
 ·obtain ⟨i,h1,h2,h3⟩:=h.rng q hq
  obtain⟨j,k1,k2,k3⟩:=h.rng p hp
  constructor
  ·intro e
   have:i=j:=by rw[h1,k1]at e;omega
   subst this;exact sgT_inj (hpos q hq) (hpos p hp) (h3.symm.trans k3)
  ·intro e
   have hx:=jjb6 h.nodup h2;have hy:=jjb6 h.nodup k2;rw[h3,e,← k3]at hx;rw[h1,k1];have:i=j:=by rw[← hx,hy]
   rw[this]
end
structure NbI (n:Nat)(K Ns:List Int)(Lc:List Nat):Prop where
 len:Ns.length=n
 low:∀ t ∈ Lc,t<n
 has:∀ j,j<Lc.length→∃ κ:Nat,el K (el Lc j)=(κ:Int)∧κ<n∧el Ns κ=(j:Int)
 no:∀ κ:Nat,κ<n→(∀ j,j<Lc.length→el K (el Lc j)≠(κ:Int))→el Ns κ= -1
section
variable {n:Nat} {K Ns:List Int} {Lc:List Nat}
theorem NbI.init (n:Nat)(K:List Int):NbI n K (List.replicate n (-1)) []:=⟨by simp,fun t ht=>absurd ht (by simp),fun j hj=>absurd hj (by simp),fun κ hκ _=>by simp[el,hκ]⟩
theorem NbI.cases (h:NbI n K Ns Lc){t κ:Nat}(hκ:el K t=(κ:Int))(hn:κ<n):(∃ j,j<Lc.length∧el K (el Lc j)=el K t∧el Ns κ=(j:Int))∨((∀ j,j<Lc.length→el K (el Lc j)≠el K t)∧el Ns κ= -1):=by
 by_cases e:∃ j,j<Lc.length∧el K (el Lc j)=el K t
 ·obtain ⟨j,hj,hje⟩:=e
  obtain⟨k',h1,h2,h3⟩:=h.has j hj
  have:k'=κ:=by rw[h1,hκ]at hje;omega
  subst this;exact .inl ⟨j,hj,hje,h3⟩
 ·refine .inr ⟨fun j hj g=>e ⟨j,hj,g⟩,h.no κ hn fun j hj g=>e ⟨j,hj,by rw[g,hκ]⟩⟩
theorem NbI.new (h:NbI n K Ns Lc){t κ:Nat}(hκ:el K t=(κ:Int))(hn:κ<n)(ht:t<n)(hno:∀ j,j<Lc.length→el K (el Lc j)≠el K t):NbI n K (Ns.set κ (Lc.length:Int)) (Lc++[t]):=by
 have hl:=h.len;refine⟨by rw[List.length_set];exact hl,fun u hu=>?_,fun j hj=>?_,fun k' hk' hk2=>?_⟩
 ·rcases List.mem_append.1 hu with g | g
  ·exact h.low u g
  ·rw [List.mem_singleton]at g;rw[g];exact ht
 ·rw [List.length_append]at hj
  simp at hj;by_cases e:j<Lc.length
  ·obtain ⟨k',h1,h2,h3⟩:=h.has j e
   refine⟨k',by rw[jjbc e];exact h1,h2,?_⟩
   rw[jjct (by omega),if_neg (fun g=>hno j e (by rw[h1,hκ,g]))];exact h3
  ·obtain rfl:j=Lc.length:=by omega
   exact⟨κ,by rw[jjbu];exact hκ,hn,by rw[jjct (by omega),if_pos rfl]⟩
 ·have h1:κ≠k':=fun g=>hk2 Lc.length (by simp) (by rw[jjbu,hκ,g])
  rw[jjct (by omega),if_neg h1];exact h.no k' hk' fun j hj g=>hk2 j (by simp;omega) (by rw[jjbc hj];exact g)
end
end Pl
namespace Wt
open ChangeShapes WideShapes ChangeAt RowKit Pl
structure JnI (wr:World)(base J gn n:Nat)(vk vf:Value)(Ns:List Int)(Lc:List Nat):Prop where
 jb:Blk wr J #[vk,.slice (some ⟨gn,0,none⟩) n n,vf] 148
 nb:Blk wr gn (Ns.map (Value.int .i64)).toArray 3
 fs:OwnZ wr base vf Lc
 ne:some gn≠vf.ownBlock
 hJ:base≤J
 hg:base≤gn
def JoK (J:Nat)(w w':World):Prop:=w.heap.size≤w'.heap.size∧∀ k cs t,Blk w k cs t→k≠J→t≠3→Blk w' k cs t
theorem JoK.refl (J:Nat)(w:World):JoK J w w:=⟨Nat.le_refl _,fun _ _ _ h _ _=>h⟩
theorem JoK.trans {J:Nat}{w w1 w2:World}(h:JoK J w w1)(k:JoK J w1 w2):JoK J w w2:=⟨Nat.le_trans h.1 k.1,fun q cs t hb h1 h2=>k.2 q cs t (h.2 q cs t hb h1 h2) h1 h2⟩
theorem JoK.of {J:Nat}{w w':World}(h:Below w.heap.size w w'):JoK J w w':=⟨h.size,fun k cs t hb _ _=>hb.below h hb.lt⟩
theorem JoK.row {J base:Nat}{w w':World}{e:TypeId}{s:Nat}{v:Value}{n:Nat}{xs:List Value}(hK:JoK J w w')(ho:w.ownsRow base e s v n xs)(he:e≠3)(hb:some J≠v.ownBlock):w'.ownsRow base e s v n xs:=by
 refine⟨ho.1,?_⟩
 rcases ho.2 with hn | ⟨g,cap,cur,rfl,hbg,hgg,rest⟩
 ·exact .inl hn
 ·exact .inr ⟨g,cap,cur,rfl,hbg,hK.2 g cur e hgg (fun e=>hb (by simp[Value.ownBlock,e])) he,rest⟩
theorem JoK.sts {J base:Nat}{w w':World}{v:Value}{l:List St}{cs:Array Value}(hK:JoK J w w')(hJ:Blk w J cs 148)(h:OwnSts w base v l):OwnSts w' base v l:=by
 obtain⟨vs,h1,h2,h3⟩:=h
 exact⟨vs,hK.row h1 (by decide) (jjak h1 hJ (by decide)),h2,fun j hj=>⟨(h3 j hj).1,hK.row (h3 j hj).2 (by decide) (jjak (h3 j hj).2 hJ (by decide))⟩⟩
section
variable {wr w':World} {base J gn n:Nat} {vk vf:Value} {Ns:List Int} {Lc:List Nat}
theorem JnI.later (h:JnI wr base J gn n vk vf Ns Lc)(hb:Below wr.heap.size wr w'):JnI w' base J gn n vk vf Ns Lc:=⟨h.jb.below hb h.jb.lt,h.nb.below hb h.nb.lt,h.fs.later hb,h.ne,h.hJ,h.hg⟩
theorem JnI.setB (h:JnI wr base J gn n vk vf Ns Lc){b:Nat}{cs:Array Value}{t:TypeId}(hb:Blk wr b cs t)(h1:3≠t)(h2:148≠t)(o:Nat)(u:Value):JnI (wr.setCell ⟨b,o,none⟩ u) base J gn n vk vf Ns Lc:=by
 have hne:∀ {k:Nat} {cs':Array Value} {t':TypeId},Blk wr k cs' t'→t'≠t→k≠b:=fun hk ht e=>by
  subst e;unfold Blk at hk hb;rw[hk]at hb;simp only[Option.some.injEq,Obj.cells.injEq]at hb;exact ht hb.2.1
 exact⟨h.jb.setO _ _ (hne h.jb h2),h.nb.setO _ _ (hne h.nb h1),World.ownsRow.kept h.fs (gSet wr b o u) (.inr (Ne.symm (jjak h.fs hb h1))),h.ne,h.hJ,h.hg⟩
theorem JnI.jn (h:JnI wr base J gn n vk vf Ns Lc):J≠gn:=fun e=>by
 have h1:=h.jb;have h2:=h.nb;rw[e]at h1;unfold Blk at h1 h2;rw[h1]at h2;exact absurd h2 (by simp)
theorem JnI.setN (h:JnI wr base J gn n vk vf Ns Lc)(κ:Nat)(x:Int):JnI (wr.setCell ⟨gn,κ,none⟩ (.int .i64 x)) base J gn n vk vf (Ns.set κ x) Lc:=by
 refine⟨h.jb.setO _ _ h.jn,?_,World.ownsRow.kept h.fs (gSet wr gn κ _) (.inr (Ne.symm h.ne)),h.ne,h.hJ,h.hg⟩
 have h9:=h.nb.set κ (.int .i64 x);rw[jjcc]at h9;exact h9
theorem JnI.push (h:JnI wr base J gn n vk vf Ns Lc)(t:Nat)(hl:Lc.length≤1000)(hb:base≤wr.heap.size):
  ∃ a k w',(Builtin.append_ #[36,36] 36 #[vf,.slice (some ⟨wr.heap.size,0,none⟩) 1 1]).run Tryz.prog (wr.alloc (.cells #[.int .i64 (t:Int)] 3))= .ok (.slice a (Lc.length+1) k) w'∧Blk w' J #[vk,.slice (some ⟨gn,0,none⟩) n n,vf] 148∧JnI (w'.setCell ⟨J,2,none⟩ (.slice a (Lc.length+1) k)) base J gn n vk (.slice a (Lc.length+1) k) Ns (Lc++[t])∧JoK J wr (w'.setCell ⟨J,2,none⟩ (.slice a (Lc.length+1) k))∧Below base wr (w'.setCell ⟨J,2,none⟩ (.slice a (Lc.length+1) k)):=by
 obtain⟨i1,hi1,hy0,hy1,hy2⟩:=info_parts infoIntZ
 have hA:=h.later ((Below.refl wr.heap.size wr).alloc (Nat.le_refl _) (.cells (encZ t).toArray 3));have hAb:=(Below.refl wr.heap.size wr).alloc (Nat.le_refl _) (.cells (encZ t).toArray 3)
 obtain⟨v4,w4,r4,ho4,hg4,hn4⟩:=jjao (P:=Tryz.prog) (w:=wr.alloc (.cells (encZ t).toArray 3)) encZ_len (by decide) encZ_one 36 36 base 3 i1 _ 8 Tryz.underlying36 hi1 hy0 hy1 hy2 rfl _ Lc.length (Lc.flatMap encZ) hA.fs _ [t] (oneRow (enc:=encZ) wr t rfl 3) (by simp;unfold maxLen;omega) (by simp;omega) (by simp;omega)
 have hT:OwnZ w4 base v4 (Lc++[t]):=by unfold OwnZ;rw[List.length_append,List.flatMap_append];exact ho4
 obtain⟨a,k,hv⟩:=jjbx ho4
 have hv':v4= .slice a (Lc.length+1) k:=hv;subst hv';have hJ4:Blk w4 J #[vk,.slice (some ⟨gn,0,none⟩) n n,vf] 148:=hA.jb.grown hg4 (jjak hA.fs hA.jb (by decide));have hN4:Blk w4 gn (Ns.map (Value.int .i64)).toArray 3:=hA.nb.grown hg4 hA.ne
 refine⟨a,k,w4,r4,hJ4,⟨hJ4.set 2 _,hN4.setO _ _ (Ne.symm h.jn),World.ownsRow.kept hT (gSet w4 J 2 _) (.inr (Ne.symm (jjak hT hJ4 (by decide)))),?_,h.hJ,h.hg⟩,⟨?_,fun q cs t' hq h1 h2=>?_⟩,?_⟩
 ·intro e
  rcases hn4 with hn4 | ⟨x,hx,hxs⟩
  ·exact hA.ne (e.trans hn4)
  ·rw [hx]at e
   injection e with e
   have:=hA.nb.lt;omega
 ·have:=hg4.size
  simp[World.setCell]at this ⊢;omega
 ·exact ((hq.alloc _).grown hg4 (jjak hA.fs (hq.alloc _) (Ne.symm h2))).setO _ _ h1
 ·exact ((hAb.mono hb).grown hg4 (by simp;omega) (jjcv hA.fs)).setCell (p:=⟨J,2,none⟩) h.hJ _
end
def HeldNv (J:Nat)(vn vf:Value)(w:World):Prop:=w.cell? ⟨J,1,none⟩=some vn∧w.cell? ⟨J,2,none⟩=some vf
def NumJ (K:List Int)(Lc:List Nat)(t jx:Nat)(Lc':List Nat):Prop:=(jx<Lc.length∧el K (el Lc jx)=el K t∧Lc'=Lc)∨((∀ j,j<Lc.length→el K (el Lc j)≠el K t)∧jx=Lc.length∧Lc'=Lc++[t])
theorem numJ_any (w0 w:World)(base J gn gk n:Nat)(vf:Value)(K Ns:List Int)(Lc:List Nat)(t:Nat)(h:JnI w base J gn n (.slice (some ⟨gk,0,none⟩) n n) vf Ns Lc)(hI:NbI n K Ns Lc)(hK:∀ q,q<n→∃ κ:Nat,el K q=(κ:Int)∧κ<n)(hKl:K.length=n)(hB:Blk w0 gk (K.map (Value.int .i64)).toArray 3)(hb0:Below w0.heap.size w0 w)(hw0:w0.heap.size≤base)(ht:t<n)(hn:n≤60)(hl:Lc.length≤60)(hbw:base≤w.heap.size):
  Calls Tryz.prog 116 #[.pointer (some ⟨J,0,none⟩),.int .i64 (t:Int)] w fun e w'=>∃ (jx:Nat) (vf':Value) (Ns':List Int) (Lc':List Nat),e= .returned (.int .i64 (jx:Int))∧NumJ K Lc t jx Lc'∧NbI n K Ns' Lc'∧JnI w' base J gn n (.slice (some ⟨gk,0,none⟩) n n) vf' Ns' Lc'∧JoK J w w'∧Below base w w':=by
 obtain⟨κ,hκ,hκn⟩:=hK t ht
 have k0:=(hb0.cell (p:=⟨gk,t,none⟩) hB.lt).trans (jjba hB (j:=t) (by omega));rw[hκ]at k0;obtain⟨af,cf,hvf⟩:=h.fs.sl
 subst hvf;have j0:=h.jb.cell 0 (v:= .slice (some ⟨gk,0,none⟩) n n) rfl;have j1:=h.jb.cell 1 (v:= .slice (some ⟨gn,0,none⟩) n n) rfl;have n0:=jjba h.nb (j:=κ) (by rw[hI.len];exact hκn);have t0:(0:Int)≤(t:Int):=Int.natCast_nonneg _;have t1:(t:Int)<(n:Int):=by omega
 have c0:(0:Int)≤(κ:Int):=Int.natCast_nonneg _;have c1:(κ:Int)<(n:Int):=by omega
 have H:=hidP h;rcases hI.cases hκ hκn with⟨j,hj,hje,hns⟩ | ⟨hno,hns⟩
 ·have HNU:Hid (NumJ K Lc t j Lc):= .inl ⟨hj,hje,rfl⟩
  have HI:=hidP hI;rw[hns]at n0;have hne:((j:Int)== -1)=false:=by simp
  clear h hI hK hB hb0 hns hje hκ;go_enter Tryz.func116,Tryz.ntmps116;go_wp2;go_ret;first | exact⟨j,_,Ns,Lc,rfl,HNU.out,HI.out,H.out,JoK.refl _ _,Below.refl _ _⟩ | exact⟨j,rfl,_,Ns,Lc,HNU.out,HI.out,H.out,JoK.refl _ _,Below.refl _ _⟩
 ·have HNU:Hid (NumJ K Lc t Lc.length (Lc++[t])):= .inr ⟨hno,rfl,rfl⟩
  have HI:=hidP (hI.new hκ hκn ht hno);rw[hns]at n0;have hS:=h.setN κ (Lc.length:Int);have hsz:(w.drew.setCell ⟨gn,κ,none⟩ (.int .i64 (Lc.length:Int))).heap.size=w.heap.size:=by simp[World.setCell]
  have hSd:JnI (w.setCell ⟨gn,κ,none⟩ (.int .i64 (Lc.length:Int))).drew base J gn n (.slice (some ⟨gk,0,none⟩) n n) (.slice af Lc.length cf) (Ns.set κ (Lc.length:Int)) Lc:=hS.later (Below.refl _ _).drew;have B1:Below base w (w.setCell ⟨gn,κ,none⟩ (.int .i64 (Lc.length:Int))).drew:=((Below.refl base w).setCell (p:=⟨gn,κ,none⟩) h.hg _).drew
  have K1:JoK J w (w.setCell ⟨gn,κ,none⟩ (.int .i64 (Lc.length:Int))).drew:=⟨by simp[World.setCell],fun q cs t' hq h1 h2=>by
   refine Blk.setO hq _ _ (fun e=>?_)
   subst e
   have h9:=h.nb
   unfold Blk at h9 hq
   rw[hq]at h9
   simp only[Option.some.injEq,Obj.cells.injEq]at h9
   exact h2 h9.2.1⟩
  have n1:=hSd.nb;have j2:=h.jb.cell 2 (v:= .slice af Lc.length cf) rfl;have f0:=h.nb.fz κ;have HS:=hidP hSd;have HB1:=hidP B1;have HK1:=hidP K1;clear h hI hK hB hb0 hns hno hS hsz hSd B1 K1 n1;go_enter Tryz.func116,Tryz.ntmps116;go_wp2;have HH:HeldNv J (.slice (some ⟨gn,0,none⟩) n n) (.slice af Lc.length cf) w.drew:=⟨j1,j2⟩
  have n0d:w.drew.cell? ⟨gn,κ,none⟩=some (.int .i64 (-1)):=n0;have f0d:w.drew.frozen? ⟨gn,κ,none⟩=false:=f0;refine jjaf (HeldNv J (.slice (some ⟨gn,0,none⟩) n n) (.slice af Lc.length cf)) 11 (by kernel_rfl) ?_
  refine jjaa (v:=?v0_1) aZ0 ?y0_1 HH ?r0_1
  case y0_1=>intro wx hx;obtain⟨h0,h1⟩:=hx;go_simp;try (with_reducible rfl)
  simp only[Act.put,sA,sB,sC];refine jjaa (v:=?v1_2) aZ1 ?y1_2 HH ?r1_2
  case y1_2=>intro wx hx;obtain⟨h0,h1⟩:=hx;go_simp;try (with_reducible rfl)
  simp only[Act.put,sA,sB,sC];refine jjaa (v:=?v2_3) aZ2 ?y2_3 HH ?r2_3
  case y2_3=>intro wx hx;obtain⟨h0,h1⟩:=hx;go_simp;try (with_reducible rfl)
  simp only[Act.put,sA,sB,sC];refine jjaa (v:=?v3_4) aZ3 ?y3_4 HH ?r3_4
  case y3_4=>intro wx hx;obtain⟨h0,h1⟩:=hx;go_simp;try (with_reducible rfl)
  simp only[Act.put,sA,sB,sC];refine jjaa (v:=?v4_5) aZ4 ?y4_5 HH ?r4_5
  case y4_5=>intro wx hx;obtain⟨h0,h1⟩:=hx;go_simp;try (with_reducible rfl)
  simp only[Act.put,sA,sB,sC];refine jjaa (v:=?v5_6) aZ5 ?y5_6 HH ?r5_6
  case y5_6=>intro wx hx;obtain⟨h0,h1⟩:=hx;go_simp;try (with_reducible rfl)
  simp only[Act.put,sA,sB,sC];refine jjaa (v:=?v6_7) aZ6 ?y6_7 HH ?r6_7
  case y6_7=>intro wx hx;obtain⟨h0,h1⟩:=hx;go_simp;try (with_reducible rfl)
  simp only[Act.put,sA,sB,sC];refine jjaa (v:=?v7_8) aZ7 ?y7_8 HH ?r7_8
  case y7_8=>intro wx hx;obtain⟨h0,h1⟩:=hx;go_simp;try (with_reducible rfl)
  simp only[Act.put,sA,sB,sC];refine jjaa (v:=?v8_9) aZ8 ?y8_9 HH ?r8_9
  case y8_9=>intro wx hx;obtain⟨h0,h1⟩:=hx;go_simp;try (with_reducible rfl)
  simp only[Act.put,sA,sB,sC];refine jjaa (v:=?v9_10) aZ9 ?y9_10 HH ?r9_10
  case y9_10=>intro wx hx;obtain⟨h0,h1⟩:=hx;go_simp;try (with_reducible rfl)
  simp only[Act.put,sA,sB,sC];refine jjaa (v:=?v10_11) aZ10 ?y10_11 HH ?r10_11
  case y10_11=>intro wx hx;obtain⟨h0,h1⟩:=hx;go_simp;try (with_reducible rfl)
  simp only[Act.put,sA,sB,sC];refine jjab aZ11 (fun K hK=>?_)
  go_simp;refine hK _ _ (.inl rfl) (jjad (by kernel_rfl) (NoPanic.normal ?_))
  try simp only[Act.put,sA,sB,sC]
  clear HH n0d f0d j0 j1 j2 n0 f0 k0 H;generalize (w.setCell ⟨gn,κ,none⟩ (.int .i64 (Lc.length:Int))).drew=w3 at *;have hbw3:base≤w3.heap.size:=Nat.le_trans hbw HB1.out.size;obtain⟨a4,c4,w4,r4,hJ4,hI4,hK4,hB4⟩:=HS.out.push t (by omega) hbw3
  have R4:=hidP r4;have I4:=hidP hI4;have K4:=hidP (HK1.out.trans hK4);have B4:=hidP (HB1.out.trans hB4);have s2:=HS.out.jb.cell 2 (v:= .slice af Lc.length cf) rfl;have y2:=hJ4.cell 2 (v:= .slice af Lc.length cf) rfl;have y3:=hJ4.fz 2;have i1:=hI4.jb.cell 1 (v:= .slice (some ⟨gn,0,none⟩) n n) rfl;have m0:=jjba hI4.nb (j:=κ) (by rw[List.length_set];have:=HI.out.len;rw[List.length_set]at this;omega)
  rw[jjct (by have:=HI.out.len;rw[List.length_set]at this;omega),if_pos rfl]at m0;clear r4 hI4 hK4 hB4 HS HK1 HB1 hJ4;obtain⟨nL,hnL⟩:∃ nL,Lc.length=nL:=⟨_,rfl⟩
  rw[hnL]at R4 I4 s2 y2 m0 i1 HNU HI K4 B4 ⊢;clear hnL hl;go_wp2_with (first | (at_builtin;refine wpListAppendRun rfl _ _ 36 rfl rfl rfl R4.out ?_));go_ret;first | exact⟨nL,_,_,_,rfl,HNU.out,HI.out,I4.out,K4.out,B4.out⟩ | exact⟨nL,rfl,_,_,_,HNU.out,HI.out,I4.out,K4.out,B4.out⟩
end Go.Proofs.YtppkiejhhmahcaaGreatDoor.Wt
