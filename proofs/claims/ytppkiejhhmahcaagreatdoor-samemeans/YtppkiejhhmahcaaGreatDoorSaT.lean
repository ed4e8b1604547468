/- Facts, joined. -/
import Derived.Test.YtppkiejhhmahcaaGreatDoorSaS
set_option linter.unusedSimpArgs false
set_option linter.unusedVariables false
namespace Go.Proofs.YtppkiejhhmahcaaGreatDoor.Pl
theorem hop_way {l:List St}{q p n c:Nat}(h:Run (EmpE l) q n p c):Way l q [] [] p c:=by
  induction h with
  | nil=>exact .nil
  | step h e ih=>
    obtain⟨a,ha,he,ht,rfl⟩:=e
    obtain⟨h1,h2⟩:=empA_iff.1 he
    have:=Way.snoc ih ha ht;simpa [lab,h1,h2] using this
theorem jjdb {H:Nat→Nat→Int}{l:List St}{q:Nat}{x:Ar}:∀ {k:Nat},x ∈ remArc H l q k→∃ p,p<k∧H q p≠noneI∧∃ a ∈ (el l p).2,empA a=false∧x=hwA (H q p) a
  | 0,h=>by simp[remArc]at h
  | k+1,h=>by
    simp only[remArc,List.mem_append]at h;rcases h with h | h
    · obtain⟨p,hp,g⟩:=jjdb h
      exact⟨p,by omega,g⟩
    · by_cases hn:H q k=noneI
      · rw[if_pos hn]at h;simp at h
      · rw[if_neg hn]at h
        unfold remOf at h;simp only[List.mem_map,List.mem_filter]at h;obtain⟨a,⟨ha,he⟩,rfl⟩:=h
        exact⟨k,by omega,hn,a,ha,by simpa using he,rfl⟩
theorem remArc_mem {H:Nat→Nat→Int}{l:List St}{q p:Nat}{a:Ar}(hn:H q p≠noneI)(ha:a ∈ (el l p).2)(he:empA a=false):∀ {k:Nat},p<k→hwA (H q p) a ∈ remArc H l q k
  | 0,h=>by omega
  | k+1,h=>by
    simp only[remArc,List.mem_append];by_cases e:p=k
    · subst e
      right
      rw[if_neg hn];unfold remOf;simp only[List.mem_map,List.mem_filter];exact⟨a,⟨ha,by simp[he]⟩,rfl⟩
    · exact .inl (remArc_mem hn ha he (by omega))
theorem light_some {l:List Ar}{x:Ar}(h:x ∈ l):∃ y ∈ lightL (sortS false l),lessB y x=true:=by
 have h1:=jjfl h;have h2:0<(lightL (sortS false l)).countP (fun y=>lessB y x):=by omega
 rw[List.countP_pos_iff]at h2;exact h2
theorem TldQ.get {P:Nat→Prop}{b:Int}(h:TldQ P b)(hn:b≠noneI):∃ c:Nat,P c∧b=(c:Int):=by
 rcases h with⟨g,_⟩ | ⟨c,hc,e,_⟩
 ·exact absurd g hn
 ·exact ⟨c,hc.1,e⟩
theorem TldQ.le {P:Nat→Prop}{b:Int}(h:TldQ P b){c:Nat}(hc:P c):b≠noneI∧b≤(c:Int):=by
 rcases h with⟨_,g⟩ | ⟨d,hd,rfl,hl⟩
 ·exact absurd hc (g c)
 ·have:=hd.2 c hc
  exact⟨by unfold noneI;omega,by omega⟩
theorem jjea {H:Nat→Nat→Int}{l:List St}{q:Nat}:∀ k,remFin H l q k=noneI∨∃ p,p<k∧H q p≠noneI∧(el l p).1≠1000000001∧remFin H l q k=H q p+(el l p).1
  | 0=> .inl rfl
  | k+1=>by
    simp only[remFin];split
    · rename_i h
      exact .inr ⟨k,by omega,h.1,h.2.1,rfl⟩
    · rcases jjea (H:=H) (l:=l) (q:=q) k with h | ⟨p,hp,h⟩
      · exact .inl h
      · exact .inr ⟨p,by omega,h⟩
theorem remFin_le {H:Nat→Nat→Int}{l:List St}{q p:Nat}(hn:H q p≠noneI)(hf:(el l p).1≠1000000001):∀ {k:Nat},p<k→remFin H l q k≤H q p+(el l p).1
  | 0,h=>by omega
  | k+1,h=>by
    simp only[remFin];by_cases e:p=k
    · subst e
      split
      · exact Int.le_refl _
      · rename_i g
        have:¬ H q p+(el l p).1<remFin H l q p:=fun x=>g ⟨hn,hf,x⟩
        omega
    · have:=remFin_le (H:=H) (l:=l) (q:=q) hn hf (k:=k) (by omega)
      split
      · rename_i g;omega
      · exact this
theorem rem_way {m:Mc}(hr:faultM m=0){H:Nat→Nat→Int}(hH:HopT m H){q:Nat}(hq:q<m.2.length){u v:List Int}{p c:Nat}(h:Way (remM H m).2 q u v p c):Way m.2 q u v p c∧p<m.2.length:=by
  induction h with
  | nil=>exact ⟨.nil,hq⟩
  | @snoc u v p c h a ha t ht ih=>
    obtain⟨ih,hp⟩:=ih
    rw[rem_el H m hp]at ha;have ha:=jjd3 _ _ ha;obtain⟨p',hp',hn,b,hb,he,rfl⟩:=jjdb ha
    obtain⟨d,⟨n,hd⟩,hde⟩:=(hH p p' hp hp').get hn
    have hw:=(jjag hr).2 (el m.2 p') (jjac hp');simp only[stB,Bool.and_eq_true,List.all_eq_true]at hw;have hw:=hw.2 _ hb;simp only[arcB,inB,Bool.and_eq_true,decide_eq_true_eq]at hw;have h1:=Way.snoc (ih.trans (hop_way hd)) hb ht;have e1:(hwA (H p p') b).2.2.1.toNat=d+b.2.2.1.toNat:=by
      show(H p p'+b.2.2.1).toNat=_;rw[hde];omega
    rw[List.append_nil,List.append_nil,Nat.add_assoc,← e1]at h1;refine⟨h1,?_⟩
    have:b.2.2.2=(t:Int):=ht;omega
theorem ov_none {H:Nat→Nat→Int}{l:List St}:∀ {n:Nat},ovTo H l n=false→∀ q,q<n→ovB H l q=false
  | 0,_,q,hq=>by omega
  | n+1,h,q,hq=>by
    simp only[ovTo,Bool.or_eq_false_iff]at h;by_cases e:q=n
    · subst e;exact h.2
    · exact ov_none h.1 q (by omega)
theorem fin_told {H:Nat→Nat→Int}{l:List St}{q:Nat}(h:ovB H l q=false):(remFin H l q l.length=noneI∧tldN (remFin H l q l.length)=1000000001)∨(remFin H l q l.length≠noneI∧remFin H l q l.length≤1000000000∧tldN (remFin H l q l.length)=remFin H l q l.length):=by
 simp only[ovB,Bool.or_eq_false_iff,decide_eq_false_iff_not,Decidable.not_not]at h;have h1:=h.1;unfold tldE at h1;unfold tldN;by_cases e:remFin H l q l.length=noneI
 ·exact .inl ⟨e,if_pos e⟩
 ·rw [if_neg e]at h1
  by_cases g:1000000000<remFin H l q l.length
  ·rw [if_pos g]at h1;cases h1
  ·exact .inr ⟨e,by omega,by rw[if_neg e,if_neg g]⟩
theorem rem_costs {m:Mc}(hr:faultM m=0){H:Nat→Nat→Int}(hH:HopT m H)(hov:ovTo H m.2 m.2.length=false){x y:List Int}{c:Nat}(h:Costs (remM H m) x y c):Costs m x y c:=by
 obtain⟨hz,p,d,hw,hp,hf,rfl⟩:=h
 have hz':0≤m.1:=hz;obtain⟨⟨hzl,hzu⟩,hst⟩:=jjag hr
 have hq:m.1.toNat<m.2.length:=by omega
 obtain⟨h1,hp'⟩:=rem_way hr hH hq hw
 rw[rem_el H m hp']at hf ⊢;have hf':tldN (remFin H m.2 p m.2.length)≠1000000001:=hf;show Costs m x y (d+(tldN (remFin H m.2 p m.2.length)).toNat);rcases fin_told (ov_none hov p hp')with⟨_,e⟩ | ⟨e1,_,e2⟩
 ·exact absurd e hf'
 ·rw [e2]
  rcases jjea (H:=H) (l:=m.2) (q:=p) m.2.length with g | ⟨p2,hp2,hn,hfi,hg⟩
  ·exact absurd g e1
  ·obtain ⟨e,⟨n,he⟩,hee⟩:=(hH p p2 hp' hp2).get hn
   have h2:=h1.trans (hop_way he);rw[List.append_nil,List.append_nil]at h2;have hb:=stB_fin (hst (el m.2 p2) (jjac hp2));simp only[finB,Bool.or_eq_true,inB,Bool.and_eq_true,decide_eq_true_eq,beq_iff_eq]at hb;exact⟨hz',p2,d+e,h2,hp2,hfi,by rw[hg,hee];omega⟩
theorem way_rem {m:Mc}(hr:faultM m=0){H:Nat→Nat→Int}(hH:HopT m H){q:Nat}(hq:q<m.2.length){u v:List Int}{p c:Nat}(h:Way m.2 q u v p c):p<m.2.length∧∃ q' d e,Way (remM H m).2 q u v q' d∧q'<m.2.length∧HopC m.2 q' p e∧d+e≤c:=by
  induction h with
  | nil=>exact ⟨hq,q,0,0,.nil,hq,⟨0,.nil⟩,Nat.le_refl _⟩
  | @snoc u v p c h a ha t ht ih=>
    obtain⟨hp,q',d,e,h1,hq',⟨n,h2⟩,h3⟩:=ih
    have hw:=(jjag hr).2 (el m.2 p) (jjac hp);simp only[stB,Bool.and_eq_true,List.all_eq_true]at hw;have hw:=hw.2 _ ha;simp only[arcB,inB,Bool.and_eq_true,decide_eq_true_eq]at hw;have htl:t<m.2.length:=by omega
    refine⟨htl,?_⟩
    rcases Bool.eq_false_or_eq_true (empA a)with he | he
    · obtain⟨e1,e2⟩:=empA_iff.1 he
      refine⟨q',d,e+a.2.2.1.toNat,by simpa [lab,e1,e2] using h1,hq',⟨n+1,h2.step ⟨a,ha,he,ht,rfl⟩⟩,by omega⟩
    · obtain⟨hn,hle⟩:=(hH q' p hq' hp).le ⟨n,h2⟩
      have hb0:=(hH q' p hq' hp).bd.1;obtain⟨b,hb,hl⟩:=light_some (remArc_mem (l:=m.2) hn ha he hp)
      obtain⟨l1,l2,l3,l4⟩:=less_iff.1 hl
      have hb':b ∈ (el (remM H m).2 q').2:=by rw[rem_el H m hq'];exact hb
      have h4:=Way.snoc h1 hb' (t:=t) (by rw[l3];exact ht);rw[l1,l2]at h4;refine⟨t,_,0,h4,htl,⟨0,.nil⟩,?_⟩
      have h5:b.2.2.1≤H q' p+a.2.2.1:=l4;omega
theorem costs_rem {m:Mc}(hr:faultM m=0){H:Nat→Nat→Int}(hH:HopT m H)(hov:ovTo H m.2 m.2.length=false){x y:List Int}{c:Nat}(h:Costs m x y c):∃ d,d≤c∧Costs (remM H m) x y d:=by
 obtain⟨hz,p,d,hw,hp,hf,rfl⟩:=h
 obtain⟨⟨hzl,hzu⟩,hst⟩:=jjag hr
 have hq:m.1.toNat<m.2.length:=by omega
 obtain⟨_,q',d',e,h1,hq',h2,h3⟩:=way_rem hr hH hq hw
 obtain⟨hn,hle⟩:=(hH q' p hq' hp).le h2
 have hb0:=(hH q' p hq' hp).bd.1;have h4:=remFin_le (H:=H) (l:=m.2) (q:=q') hn hf hp;have hb:=stB_fin (hst (el m.2 p) (jjac hp));simp only[finB,Bool.or_eq_true,inB,Bool.and_eq_true,decide_eq_true_eq,beq_iff_eq]at hb;rcases fin_told (ov_none hov q' hq')with⟨e1,_⟩ | ⟨e1,e2,e3⟩
 ·rcases (hH q' p hq' hp).bd.2 with g | g
  ·exact absurd g hn
  ·rw [e1]at h4;unfold noneI at h4;omega
 ·refine ⟨d'+(remFin H m.2 q' m.2.length).toNat,by omega,hz,q',d',h1,by rw[jjdl];exact hq',?_,?_⟩
  ·rw [rem_el H m hq']
   show tldN (remFin H m.2 q' m.2.length)≠1000000001;rw[e3];omega
  ·rw [rem_el H m hq']
   show _=d'+(tldN (remFin H m.2 q' m.2.length)).toNat;rw[e3]
theorem rem_full {H:Nat→Nat→Int}{l:List St}{q:Nat}{a:Ar}(h:a ∈ remL H l q):empA a=false:=by
 obtain⟨p,_,_,b,_,he,rfl⟩:=jjdb (jjd3 _ _ h)
 exact he
def NoEmp (l:List St):Prop:=∀ q,q<l.length→∀ a ∈ (el l q).2,empA a=false
theorem rem_noEmp (H:Nat→Nat→Int)(m:Mc):NoEmp (remM H m).2:=fun q hq a ha=>by
 rw[jjdl]at hq;rw[rem_el H m hq]at ha;exact rem_full ha
theorem nine_hop {m:Mc}(hr:faultM m=0)(h9:NineL m.2){H:Nat→Nat→Int}(hH:HopT m H){q p:Nat}(hq:q<m.2.length)(hp:p<m.2.length)(hn:H q p≠noneI):0≤H q p∧H q p≤((m.2.length:Int)+1)*9:=by
 have h0:=(hH q p hq hp).bd.1;refine⟨h0,?_⟩
 obtain⟨c,⟨n,hc⟩,hce⟩:=(hH q p hq hp).get hn
 obtain⟨d,_,h2,h3⟩:=(run_via (fun k w j e=>(jjbz hr e).1) hc).cheap (W:=9) (fun x w y e=>by
  obtain⟨a,ha,_,_,rfl⟩:=e
  have hx:x<m.2.length:=arcE_in (l:=m.2) (w:=a.2.2.1.toNat) (j:=y) ⟨a,ha,by assumption,rfl⟩
  have:=(h9 (el m.2 x) (jjac hx)).2 a ha
  omega)
 have h4:=((hH q p hq hp).le h3.run).2;have h5:(d:Int)≤((m.2.length:Int)+1)*9:=by
  have:((m.2.length+1)*9:Nat)=((m.2.length:Int)+1)*9:=by push_cast;rfl
  omega
 omega
theorem right_fit {m:Mc}(h:faultM m=0):fitM m=m∧fitE m=0:=by
 have h1:=(jjax h).1;unfold fitM fitE;rw[if_pos h1,if_pos h1];exact⟨rfl,rfl⟩
theorem rem_fit {m:Mc}(hr:faultM m=0){H:Nat→Nat→Int}(h2:ovTo H m.2 m.2.length=false):remR H m=fitM (remM H m)∧remE H m=fitE (remM H m):=by
 constructor
 ·unfold remR
  rw[if_neg (by rw[hr];simp),if_neg (by rw[h2];simp)]
 ·unfold remE
  rw[if_neg (by rw[hr];simp),if_neg (by rw[h2];simp)]
structure PshM (m x:Mc)(tot:Int)(T:Mc)(vs:List Int):Prop where
 eqx:x=pshM vs T
 eqt:tot=pshT vs T
 pot:Pot T.2 vs
 least:∀ q,q<T.2.length→LeastP (EndC T.2 q) (el vs q).toNat
 right:faultM T=0
 rightx:faultM x=0
 cheapx:CheapL x.2
 low:∀ q,q<T.2.length→0≤el vs q∧el vs q≤90
 start:T.1<0↔T.2.length=0
 stays:∀ a b,Least (AheadC T.1 T.2) T.2.length a→Least (BackC T.2) T.2.length b→trmM T a b=T
 costs:∀ X Y c,Costs T X Y c↔Costs m X Y c
 fin9:∀ s ∈ x.2,s.1≠1000000001→s.1≤9
 allA:∀ a,Least (AheadC T.1 T.2) T.2.length a→a=List.replicate T.2.length true
 allB:∀ b,Least (BackC T.2) T.2.length b→b=List.replicate T.2.length true
theorem arcE_cheap {m:Mc}(hc:CheapL m.2){k w j:Nat}(e:ArcE m.2 k w j):w≤8000:=by
 have hk:=arcE_in e;obtain⟨a,ha,_,rfl⟩:=e
 have:=(hc _ (jjac hk)).2 a ha;omega
theorem run_cheap {m:Mc}(hr:faultM m=0)(hc:CheapL m.2){s n q c:Nat}(hs:s<m.2.length)(h:Run (ArcE m.2) s n q c):∃ n' d,d≤480000∧d≤c∧Run (ArcE m.2) s n' q d:=by
 have h60:=(jjae (z:=m.1) (l:=m.2) hr).1;obtain⟨n',d,hn,hd,h'⟩:=h.cheap hs (fun k w j e=>(jjeh hr e).1)
 have h1:=h'.cost (W:=8000) (fun k w j e=>arcE_cheap hc e);have h2:n'*8000≤60*8000:=Nat.mul_le_mul_right _ (by omega);exact⟨n',d,by omega,hd,h'⟩
theorem end_bound {m:Mc}(hr:faultM m=0)(hc:CheapL m.2){q c:Nat}(hq:q<m.2.length)(h:EndC m.2 q c):∃ d,d≤100000000∧EndC m.2 q d:=by
 obtain⟨n,p,d,h,hp,hf,rfl⟩:=h
 obtain⟨n',d',hd,_,h'⟩:=run_cheap hr hc hq h
 have:=(hc _ (jjac hp)).1 hf;exact⟨d'+(el m.2 p).1.toNat,by omega,n',p,d',h',hp,hf,rfl⟩
theorem dst_cst {m:Mc}{P:Nat→Nat→Prop}{vs:List Int}{ec:Int}(hr:faultM m=0)(hb:∀ q,q<m.2.length→∀ c,P q c→∃ d,d≤100000000∧P q d)(h:DstAns m P vs ec):ec=0∧vs.length=m.2.length∧∀ q,q<m.2.length→CstIs (P q) (el vs q):=by
 rcases h with⟨h,_⟩ | ⟨_,⟨h1,h2,h3⟩ | ⟨_,_,q,hq,h4⟩⟩
 ·exact absurd hr h
 ·exact ⟨h1,h2,fun q hq=>(cst_of (h3 q hq) (hb q hq)).2⟩
 ·exact absurd (cst_of h4 (hb q hq)).1 (by decide)
theorem end_cst {m:Mc}{vs:List Int}{ec:Int}(hr:faultM m=0)(hc:CheapL m.2)(h:DstAns m (EndC m.2) vs ec):ec=0∧vs.length=m.2.length∧∀ q,q<m.2.length→CstIs (EndC m.2 q) (el vs q):=dst_cst hr (fun q hq c=>end_bound hr hc hq) h
structure PshU (m x:Mc)(tot:Int)(T:Mc)(vs:List Int):Prop where
 eqx:x=pshM vs T
 eqt:tot=pshT vs T
 pot:Pot T.2 vs
 least:∀ q,q<T.2.length→LeastP (EndC T.2 q) (el vs q).toNat
 right:faultM T=0
 rightx:faultM x=0
 low:∀ q,q<T.2.length→0≤el vs q∧el vs q≤100000000
 start:T.1<0↔T.2.length=0
 costs:∀ X Y c,Costs T X Y c↔Costs m X Y c
 allA:∀ a,Least (AheadC T.1 T.2) T.2.length a→a=List.replicate T.2.length true
 allB:∀ b,Least (BackC T.2) T.2.length b→b=List.replicate T.2.length true
 short:T.2.length≤m.2.length
 certT:∃ aa bs,Least (AheadC m.1 m.2) m.2.length aa∧Least (BackC m.2) m.2.length bs∧T=trmM m aa bs
theorem cheap_over {T:Mc}{vs:List Int}(h9:CheapL T.2)(hP:Pot T.2 vs)(hlow:∀ q,q<T.2.length→0≤el vs q∧el vs q≤100000000){q:Nat}(hq:q<T.2.length){a:Ar}(ha:a ∈ (el T.2 q).2):(pshA vs q a).2.2.1≤100008000:=by
 obtain⟨t,e1,e2,e3,e4⟩:=hP.arc q hq a ha
 have h1:=(h9 _ (jjac hq)).2 a ha;have h2:=hlow t e2;have h3:=hlow q hq;simp only[pshA];rw[e1,Int.toNat_natCast];omega
theorem psh_cheap {m x:Mc}{tot ec:Int}(hf:faultM m=0)(h9:CheapL m.2)(h:PshAns m x tot ec):ec=0∧∃ T vs,PshU m x tot T vs:=by
 obtain⟨z,l⟩:=m
 rcases h with⟨h0,_⟩ | ⟨_,aa,bs,vs,e,hA,hB,hD,h⟩
 ·exact absurd hf h0
 ·obtain ⟨tz,tl,hT,hfT,hAT,hBT,hST,hz,hlen⟩:=jjcy hf hA hB
  have hT':trmM (z,l) aa bs=(tz,tl):=hT;have h9T:CheapL tl:=by have:=trim_cheap (z:=z) (aa:=aa) (bs:=bs) rfl h9;rw[hT]at this;exact this
  have hcost:∀ X Y c,Costs (tz,tl) X Y c↔Costs (z,l) X Y c:=fun X Y c=>by have:=costs_trim hf hA hB X Y c;rw[hT]at this;exact this
  rw[hT']at hD h;obtain⟨b0,hb0⟩:∃ b,Least (BackC tl) tl.length b:=by
   have:=jjcx hf hA hB;have e9:tl=(keptL aa bs l.length).map (trimS l (keptL aa bs l.length)):=by have:=congrArg Prod.snd hT;exact this.symm
   rw[e9,List.length_map];exact⟨_,this⟩
  have hall:∀ q,q<tl.length→∃ c,EndC tl q c:=fun q hq=>end_all (m:=(tz,tl)) hfT hb0 hq (by rw[hBT b0 hb0];exact el_true.2 hq)
  obtain⟨rfl,_,_⟩:=end_cst (m:=(tz,tl)) hfT h9T hD
  obtain⟨hP,hL⟩:=pot_of (m:=(tz,tl)) hfT hall hD
  have hlow:∀ q,q<tl.length→0≤el vs q∧el vs q≤100000000:=fun q hq=>by
   obtain⟨c,hc⟩:=hall q hq
   obtain⟨d,hd,hd2⟩:=end_bound (m:=(tz,tl)) hfT h9T hq hc
   have h1:=(hL q hq).2 d hd2;have h2:=(hP.nn q hq).1;omega
  have hO:pshO vs tl=false:=by
   unfold pshO;rw[List.any_eq_false];intro q hq;rw[List.mem_range]at hq;rw[Bool.not_eq_true,List.any_eq_false];intro a ha
   have:=cheap_over (T:=(tz,tl)) h9T hP hlow hq ha;simp;omega
  rcases h with⟨k,_⟩ | ⟨_,k,_⟩ | ⟨_,_,hx,ht,hec⟩
  ·exact absurd rfl k
  ·simp only at k;rw[hO]at k;cases k
  ·exact ⟨hec,(tz,tl),vs,hx,ht,hP,hL,hfT,by rw[hx];exact psh_right (m:=(tz,tl)) hfT hP hO,hlow,hz,hcost,hAT,hBT,hlen,aa,bs,hA,hB,hT.symm⟩
theorem PshU.none {m x:Mc}{tot:Int}{T:Mc}{vs:List Int}(h:PshU m x tot T vs)(hz:T.1<0)(X Y:List Int):(∀ c,¬ Costs m X Y c)∧(∀ c,¬ Costs x X Y c)∧tot=0:=by
 refine⟨fun c hc=>?_,fun c hc=>?_,?_⟩
 ·have:=((h.costs X Y c).2 hc).1
  omega
 ·have h1:=hc.1
  rw[h.eqx]at h1;simp only[pshM]at h1;omega
 ·rw [h.eqt];unfold pshT;rw[if_pos hz]
theorem PshU.tot_rng {m x:Mc}{tot:Int}{T:Mc}{vs:List Int}(h:PshU m x tot T vs):0≤tot∧tot≤100000000:=by
 rw[h.eqt];unfold pshT;split
 ·omega
 ·have h1:=(jjag h.right).1
  exact h.low _ (by omega)
theorem PshU.len {m x:Mc}{tot:Int}{T:Mc}{vs:List Int}(h:PshU m x tot T vs):x.2.length=T.2.length:=by rw[h.eqx];exact jjca _ _
theorem PshU.both {m x:Mc}{tot:Int}{T:Mc}{vs:List Int}(h:PshU m x tot T vs)(X Y:List Int):(∀ c,Costs x X Y c→∃ d,Costs m X Y d∧(d:Int)=(c:Int)+tot)∧(∀ d,Costs m X Y d→∃ c,Costs x X Y c∧(d:Int)=(c:Int)+tot):=by
 by_cases hz:T.1<0
 ·obtain ⟨h1,h2,h3⟩:=h.none hz X Y
  exact⟨fun c k=>absurd k (h2 c),fun d k=>absurd k (h1 d)⟩
 ·obtain ⟨tz,tl⟩:=T
  obtain⟨z,hz0⟩:∃ z:Nat,tz=(z:Int):=⟨tz.toNat,by simp only at hz;omega⟩
  subst hz0;have hzl:z<tl.length:=by have:=(jjag h.right).1.2;simp only at this;omega
  have htot:tot=el vs z:=by rw[h.eqt];unfold pshT;rw[if_neg hz];simp
  have hc:=fun c=>h.pot.costs hzl X Y c
  have hi:∀ c,Costs x X Y c↔∃ d,Costs m X Y d∧(d:Int)=(c:Int)+tot:=fun c=>by
   rw[h.eqx,hc c,htot];exact⟨fun ⟨d,k1,k2⟩=>⟨d,(h.costs X Y d).1 k1,k2⟩,fun ⟨d,k1,k2⟩=>⟨d,(h.costs X Y d).2 k1,k2⟩⟩
  refine⟨fun c k=>(hi c).1 k,fun d hd=>?_⟩
  have hge:tot≤(d:Int):=by
   obtain⟨_,p,d0,hw,hp,hn,e⟩:=(h.costs X Y d).2 hd
   have hw':Way tl z X Y p d0:=by simpa using hw
   obtain⟨_,c',_,h2⟩:=h.pot.way hzl hw'
   have h3:=h.pot.fin p hp hn;have h4:=h.pot.nn p hp;simp only at e h3 h4;omega
  have hr:=h.tot_rng;exact⟨d-tot.toNat,(hi _).2 ⟨d,hd,by omega⟩,by omega⟩
def lbs (l:List Ar):List (Int × Int):=l.map fun a=>(a.1,a.2.1)
def CrtL (l:List St):Prop:=∀ s ∈ l,(lbs s.2).Nodup∧((0,0):Int × Int) ∉ lbs s.2
theorem jjeb (l:List Ar):(lbs l).length=l.length:=by simp[lbs]
theorem once_lbs {l:List Ar}:onceB l=true↔(lbs l).Nodup:=by
 rw[onceB_iff,List.nodup_iff_pairwise_ne,List.pairwise_iff_getElem];constructor
 ·intro h i j hi hj hij e
  rw[jjeb]at hi hj;have h1:=h j hj i hij;rw[← Bool.not_eq_true,pairB_iff,jjaj hj,jjaj hi]at h1;simp only[lbs,List.getElem_map,Prod.mk.injEq]at e;exact h1 ⟨e.1.symm,e.2.symm⟩
 ·intro h k hk j hj
  rw[← Bool.not_eq_true,pairB_iff];rintro⟨e1,e2⟩
  rw[jjaj hk,jjaj (show j<l.length by omega)]at e1 e2;refine h j k (by rw[jjeb];omega) (by rw[jjeb];omega) hj ?_
  simp only[lbs,List.getElem_map,Prod.mk.injEq];exact⟨e1.symm,e2.symm⟩
theorem emp_lbs {l:List St}:empB l=false↔∀ s ∈ l,((0,0):Int × Int) ∉ lbs s.2:=by
 unfold empB;rw[List.any_eq_false];refine forall_congr' fun s=>forall_congr' fun hs=>?_
 rw[Bool.not_eq_true,List.any_eq_false];constructor
 ·intro h k
  obtain⟨a,ha,e⟩:=List.mem_map.1 k
  simp only[Prod.mk.injEq]at e
  have:=h a ha;simp[e.1,e.2]at this
 ·intro h a ha k
  simp only[Bool.and_eq_true,decide_eq_true_eq]at k;exact h (List.mem_map.2 ⟨a,ha,by rw[k.1,k.2]⟩)
theorem crt_iff {l:List St}:CrtL l↔empB l=false∧l.all (fun s=>onceB s.2)=true:=by
 rw[emp_lbs,List.all_eq_true];constructor
 ·exact fun h=>⟨fun s hs=>(h s hs).2,fun s hs=>once_lbs.2 (h s hs).1⟩
 ·exact fun h s hs=>⟨once_lbs.1 (h.2 s hs),h.1 s hs⟩
theorem lbs_trim (ks:List Int)(l:List Ar):(lbs (trimA ks l)).Sublist (lbs l):=by
 have h1:lbs (l.map (turnA ks))=lbs l:=by simp[lbs,turnA,Function.comp_def]
 rw[← h1];exact List.Sublist.map _ List.filter_sublist
theorem crt_trim {m:Mc}{aa bs:List Bool}(h:CrtL m.2):CrtL (trmM m aa bs).2:=fun s hs=>by
 simp only[trmM,trimM]at hs;obtain⟨x,hx,rfl⟩:=List.mem_map.1 hs
 obtain⟨q,rfl,hq,_⟩:=jjbo hx
 simp only[trimS,Int.toNat_natCast];have h1:=h _ (jjac hq);have h2:=lbs_trim (keptL aa bs m.2.length) (el m.2 q).2;exact⟨h1.1.sublist h2,fun k=>h1.2 (h2.subset k)⟩
theorem crt_psh {l:List St}{vs:List Int}(h:CrtL l):CrtL (pshL vs l):=fun s hs=>by
 obtain⟨q,hq,rfl⟩:=List.mem_map.1 hs
 rw[List.mem_range]at hq;have h1:=h _ (jjac hq);have h2:lbs (pshS vs l q).2=lbs (el l q).2:=by simp[lbs,pshS,pshA,Function.comp_def]
 rw[h2];exact h1
theorem crt_sort {m:Mc}(h:CrtL m.2):CrtL (srtM m).2:=fun s hs=>by
 simp only[srtM,mapM]at hs;obtain⟨x,hx,rfl⟩:=List.mem_map.1 hs
 have h1:=h x hx;have h2:(lbs (sortS false x.2)).Perm (lbs x.2):=(jjbh false x.2).map _;exact⟨h2.nodup_iff.2 h1.1,fun k=>h1.2 (h2.mem_iff.1 k)⟩
structure SmlU (m x:Mc)(tot:Int)(p T:Mc)(vs:List Int):Prop where
 psh:PshU m p tot T vs
 crt:CrtL (srtM p).2
 way:(p.1<0∧p.2=[]∧x=(p.1,[])∧tot=0)∨(0≤p.1∧p.1.toNat<(srtM p).2.length∧∃ f,FstC (srtM p).2 f∧lstA (srtM p).2 f p.1.toNat=(x,0))
theorem sml_cheap {m x:Mc}{tot ec:Int}(hf:faultM m=0)(h9:CheapL m.2)(hc:CrtL m.2)(h:SmlAns m x tot ec):ec=0∧∃ p T vs,SmlU m x tot p T vs:=by
 obtain⟨c1,c2⟩:=crt_iff.1 hc
 rcases h with⟨h0,_⟩ | ⟨_,h4,_⟩ | ⟨_,_,h5,_⟩ | ⟨_,_,_,p,s,g,hP,h⟩
 ·exact absurd hf h0
 ·rw [c1]at h4;cases h4
 ·rw [c2]at h5;cases h5
 ·obtain ⟨rfl,T,vs,hU⟩:=psh_cheap hf h9 hP
  obtain⟨aa,bs,_,_,hT⟩:=hU.certT
  have hcp:CrtL (srtM p).2:=crt_sort (by rw[hU.eqx];exact crt_psh (by rw[hT];exact crt_trim hc));have hp1:p.1=T.1:=by rw[hU.eqx];rfl
  rcases h with⟨a0,_⟩ | ⟨_,az,a1,a2,a3⟩ | ⟨_,az,hl,a2,a3⟩
  ·exact absurd rfl a0
  ·have hz:T.1<0:=by omega
   have hnil:p.2=[]:=List.eq_nil_of_length_eq_zero (by rw[hU.len];exact hU.start.1 hz);have hs0:s=0:=(hU.none hz [] []).2.2;refine⟨a3,p,T,vs,?_,hcp,.inl ⟨az,hnil,?_,a2⟩⟩
   ·rw [a2,← hs0];exact hU
   ·rw [a1];simp[srtM,mapM,hnil]
  ·subst a2
   refine⟨a3,p,T,vs,hU,hcp,.inr ⟨az,?_,hl⟩⟩
   have:=(jjag hU.rightx).1.2;rw[srt_len];omega
theorem SmlU.both {m x:Mc}{tot:Int}{p T:Mc}{vs:List Int}(h:SmlU m x tot p T vs)(X Y:List Int):(∀ c,Costs x X Y c→∃ d,Costs m X Y d∧(d:Int)=(c:Int)+tot)∧(∀ d,Costs m X Y d→∃ c,Costs x X Y c∧(d:Int)=(c:Int)+tot):=by
 have hb:=h.psh.both X Y;have hi:∀ c,Costs x X Y c↔Costs p X Y c:=fun c=>by
  rcases h.way with⟨h1,h2,h3,_⟩ | ⟨h0,h2,f,hf,hl⟩
  ·obtain ⟨a,b⟩:=p
   simp only at h2 h3;rw[h3,← h2]
  ·have:=lst_costs (z:=p.1) (l:=(srtM p).2) (jjc1 h.psh.rightx) hf h0 h2 hl X Y c
   rw[this];exact costs_sort false p X Y c
 exact⟨fun c k=>hb.1 c ((hi c).1 k),fun d k=>by obtain⟨c,k1,k2⟩:=hb.2 d k;exact⟨c,(hi c).2 k1,k2⟩⟩
def MinEq (P Q:Nat→Prop):Prop:=(∀ c,P c→∃ d,d≤c∧Q d)∧∀ c,Q c→∃ d,d≤c∧P d
theorem MinEq.symm {P Q:Nat→Prop}(h:MinEq P Q):MinEq Q P:=⟨h.2,h.1⟩
theorem MinEq.of {P Q:Nat→Prop}(h:∀ c,P c↔Q c):MinEq P Q:=⟨fun c k=>⟨c,Nat.le_refl _,(h c).1 k⟩,fun c k=>⟨c,Nat.le_refl _,(h c).2 k⟩⟩
theorem MinEq.trans {P Q R:Nat→Prop}(h:MinEq P Q)(k:MinEq Q R):MinEq P R:=
 ⟨fun c hc=>by obtain⟨d,hd,h1⟩:=h.1 c hc;obtain⟨e,he,h2⟩:=k.1 d h1;exact⟨e,Nat.le_trans he hd,h2⟩,
  fun c hc=>by obtain⟨d,hd,h1⟩:=k.2 c hc;obtain⟨e,he,h2⟩:=h.2 d h1;exact⟨e,Nat.le_trans he hd,h2⟩⟩
theorem MinEq.cst {P Q:Nat→Prop}{a b:Int}(h:MinEq P Q)(ha:CstIs P a)(hb:CstIs Q b):a=b:=by
 rcases ha with⟨rfl,ha⟩ | ⟨c,hc,_,rfl⟩<;>rcases hb with⟨rfl,hb⟩ | ⟨d,hd,_,rfl⟩
 ·rfl
 ·obtain ⟨e,_,he⟩:=h.2 d hd.1
  exact absurd he (ha e)
 ·obtain ⟨e,_,he⟩:=h.1 c hc.1
  exact absurd he (hb e)
 ·obtain ⟨e,h1,h2⟩:=h.1 c hc.1
  obtain⟨f,h3,h4⟩:=h.2 d hd.1
  have:=hd.2 e h2
  have:=hc.2 f h4;have:c=d:=by omega
  rw[this]
theorem low_arc {m:Mc}{n:Nat}(hr:faultM m=0)(h9:NineL m.2)(h8:m.2.length≤10){H:Nat→Nat→Int}(hH:HopT m H){q:Nat}(hq:q<m.2.length){a:Ar}(ha:a ∈ remL H m.2 q):arcB m.2.length a=true∧a.2.2.1≤108:=by
 obtain⟨p,hp,hn,b,hb,_,rfl⟩:=jjdb (jjd3 _ _ ha)
 have h1:=nine_hop hr h9 hH hq hp hn;have h2:=(h9 (el m.2 p) (jjac hp)).2 b hb;have hw:=(jjag hr).2 (el m.2 p) (jjac hp);simp only[stB,Bool.and_eq_true,List.all_eq_true]at hw;have hw:=hw.2 _ hb;simp only[arcB,inB,Bool.and_eq_true,decide_eq_true_eq]at hw;have h3:((m.2.length:Int)+1)*9≤99:=by omega
 obtain⟨h0,h1'⟩:=h1
 refine⟨?_,by show H q p+b.2.2.1≤108;omega⟩
 simp only[arcB,inB,Bool.and_eq_true,decide_eq_true_eq];refine⟨⟨⟨by show 0≤b.1∧b.1≤1000;omega,by show 0≤b.2.1∧b.2.1≤1000;omega⟩,by show 0≤H q p+b.2.2.1∧H q p+b.2.2.1≤1000000000;omega⟩,?_⟩
 show 0≤b.2.2.2∧b.2.2.2≤(m.2.length:Int)-1;omega
theorem low_fin {m:Mc}(hr:faultM m=0)(h9:NineL m.2)(h8:m.2.length≤10){H:Nat→Nat→Int}(hH:HopT m H){q:Nat}(hq:q<m.2.length):remFin H m.2 q m.2.length=noneI∨(0≤remFin H m.2 q m.2.length∧remFin H m.2 q m.2.length≤108):=by
 rcases jjea (H:=H) (l:=m.2) (q:=q) m.2.length with h | ⟨p,hp,hn,hf,e⟩
 ·exact .inl h
 ·have h1:=nine_hop hr h9 hH hq hp hn
  have h2:=(h9 (el m.2 p) (jjac hp)).1 hf;have hw:=(jjag hr).2 (el m.2 p) (jjac hp);simp only[stB,finB,Bool.and_eq_true,Bool.or_eq_true,inB,decide_eq_true_eq,beq_iff_eq]at hw;have h3:((m.2.length:Int)+1)*9≤99:=by omega
  right
  rw[e]
  have:=hw.1;omega
theorem low_ov {m:Mc}(hr:faultM m=0)(h9:NineL m.2)(h8:m.2.length≤10){H:Nat→Nat→Int}(hH:HopT m H):∀ {n:Nat},n≤m.2.length→ovTo H m.2 n=false
  | 0,_=>rfl
  | n+1,hn=>by
    simp only[ovTo,Bool.or_eq_false_iff];refine⟨low_ov hr h9 h8 hH (by omega),?_⟩
    unfold ovB;simp only[Bool.or_eq_false_iff,decide_eq_false_iff_not,List.any_eq_false];refine⟨?_,fun a ha=>?_⟩
    · unfold tldE
      rcases low_fin hr h9 h8 hH (show n<m.2.length by omega)with g | g
      · rw[g];decide
      · have h1:remFin H m.2 n m.2.length≠noneI:=by unfold noneI;omega
        split<;>omega
    · have:=(low_arc (n:=0) hr h9 h8 hH (show n<m.2.length by omega) ha).2
      simp only[bigA,decide_eq_true_eq];omega
theorem low_right {m:Mc}(hr:faultM m=0)(h9:NineL m.2)(h8:m.2.length≤10)(hA:m.2.length*arcN m.2≤400){H:Nat→Nat→Int}(hH:HopT m H):faultM (remM H m)=0∧LowL 108 (remM H m).2:=by
 have hov:=low_ov hr h9 h8 hH (Nat.le_refl _);have hel:∀ s ∈ (remM H m).2,∃ q,q<m.2.length∧s=remS H m.2 q:=fun s hs=>by
  simp only[remM,List.mem_map,List.mem_range]at hs;obtain⟨q,hq,rfl⟩:=hs
  exact⟨q,hq,rfl⟩
 have hfin:∀ q,q<m.2.length→(remS H m.2 q).1=1000000001∨(0≤(remS H m.2 q).1∧(remS H m.2 q).1≤108):=fun q hq=>by
  show tldN _=_∨(0≤tldN _∧tldN _≤_);rcases fin_told (ov_none hov q hq)with⟨_,e⟩ | ⟨e1,_,e2⟩
  ·exact .inl e
  ·rcases low_fin hr h9 h8 hH hq with g | g
   ·exact absurd g e1
   ·rw [e2];exact .inr g
 refine⟨jjb4 ?_ ?_,fun s hs=>?_⟩
 ·have h1:arcN (remM H m).2≤(remM H m).2.length*arcN m.2:=arcN_each fun s hs=>by
   obtain⟨q,hq,rfl⟩:=hel s hs
   exact remL_le H m.2 q
  rw[jjdl]at h1;simp only[sizeB,Bool.and_eq_true,decide_eq_true_eq];rw[jjdl];omega
 ·unfold rangeB
  rw[jjdl];simp only[Bool.and_eq_true,List.all_eq_true];refine⟨?_,fun s hs=>?_⟩
  ·have:=(jjag hr).1
   simp only[inB,Bool.and_eq_true,decide_eq_true_eq];exact this
  ·obtain ⟨q,hq,rfl⟩:=hel s hs
   simp only[stB,Bool.and_eq_true,List.all_eq_true];refine⟨?_,fun a ha=>(low_arc (n:=0) hr h9 h8 hH hq ha).1⟩
   simp only[finB,Bool.or_eq_true,inB,Bool.and_eq_true,decide_eq_true_eq,beq_iff_eq]
   have:=hfin q hq;omega
 ·obtain ⟨q,hq,rfl⟩:=hel s hs
  refine⟨fun h=>?_,fun a ha=>(low_arc (n:=0) hr h9 h8 hH hq ha).2⟩
  have:=hfin q hq;omega
structure SmlM (m:Mc):Prop where
 right:faultM m=0
 nine:NineL m.2
 len:m.2.length≤10
 arcs:m.2.length*arcN m.2≤400
structure NrmU (m x:Mc)(t:Int)(H:Nat→Nat→Int)(U p T:Mc)(vs:List Int):Prop where
 hop:HopT m H
 over:ovTo H m.2 m.2.length=false
 rrem:faultM (remM H m)=0
 low:LowL 108 (remM H m).2
 emp:empB (remM H m).2=false
 cer:cerA (remM H m)=(U,0)
 rcer:faultM U=0
 cheap:CheapL U.2
 crt:CrtL U.2
 sml:SmlU U x t p T vs
theorem noEmp_emp {l:List St}(h:NoEmp l):empB l=false:=by
 unfold empB;rw[List.any_eq_false];intro s hs;obtain⟨q,hq,rfl⟩:=jja1 hs
 rw[Bool.not_eq_true,List.any_eq_false];intro a ha
 have:=h q hq a ha;unfold empA at this;rw[this];simp
theorem SmlM.rem {m:Mc}(h:SmlM m){H:Nat→Nat→Int}(hH:HopT m H):remR H m=remM H m∧remE H m=0:=by
 have h2:=low_ov h.right h.nine h.len hH (Nat.le_refl _);have h3:=right_fit (low_right h.right h.nine h.len h.arcs hH).1;have e1:=rem_fit h.right h2;exact⟨e1.1.trans h3.1,e1.2.trans h3.2⟩
theorem cer_none {m:Mc}(hf:faultM m=0)(he:empB m.2=false)(hz:m.1<0):cerA m=((-1,[]),0):=by
 unfold cerA;rw[if_neg (fun g=>g hf),he,if_neg (by decide),if_pos hz]
theorem SmlM.two {m x:Mc}{t e:Int}(h:SmlM m)(hN:NrmAns m x t e):(e=5∧x=(0,[])∧t=0)∨(e=0∧∃ H U p T vs,NrmU m x t H U p T vs):=by
 obtain⟨H,hH,k⟩:=hN
 have hH:=hH h.right;obtain⟨e1,e2⟩:=h.rem hH
 obtain⟨hrr,hlo⟩:=low_right h.right h.nine h.len h.arcs hH
 have hem:=noEmp_emp (rem_noEmp H m);have hov:=low_ov h.right h.nine h.len hH (Nat.le_refl _);rw[e1,e2]at k
 have fin:∀ U,cerA (remM H m)=(U,0)→faultM U=0→CheapL U.2→CrtL U.2→(0≠(0:Int)∧x=(0,[])∧t=0∧e=0)∨((0:Int)=0∧(cerA (remM H m)).2≠0∧x=(0,[])∧t=0∧e=(cerA (remM H m)).2)∨((0:Int)=0∧(cerA (remM H m)).2=0∧SmlAns (cerA (remM H m)).1 x t e)→(e=5∧x=(0,[])∧t=0)∨(e=0∧∃ H U p T vs,NrmU m x t H U p T vs):=fun U hE r1 r2 r3 k=>by
  rw[hE]at k;rcases k with⟨k0,_⟩ | ⟨_,k0,_⟩ | ⟨_,_,k⟩
  ·exact absurd rfl k0
  ·exact absurd rfl k0
  ·obtain ⟨g1,p,T,vs,g2⟩:=sml_cheap r1 r2 r3 k
   exact .inr ⟨g1,H,U,p,T,vs,hH,hov,hrr,hlo,hem,hE,r1,r2,r3,g2⟩
 by_cases hz:0≤(remM H m).1
 ·rcases cer_two hrr hz hem (W:=108) (by omega) hlo with hE | ⟨U,hE,hcu⟩
  ·rw [hE]at k
   rcases k with⟨k0,_⟩ | ⟨_,_,k1,k2,k3⟩ | ⟨_,k0,_⟩
   ·exact absurd rfl k0
   ·exact .inl ⟨k3,k1,k2⟩
   ·exact absurd k0 (by decide)
  ·obtain ⟨hfu,hup,hu0⟩:=cer_right hrr hz hE
   refine fin U hE hfu hcu (crt_iff.2 ⟨cer_full hrr hz hE,List.all_eq_true.2 fun s hs=>?_⟩) k
   obtain⟨q,hq,rfl⟩:=jja1 hs
   exact(ltP_once (cer_pairs hrr hz hE hq)).1
 ·have hE:=cer_none hrr hem (by omega)
  exact fin _ hE (by decide) (fun s hs=>by cases hs) (fun s hs=>by cases hs) k
theorem NrmU.costs {m x:Mc}{t:Int}{H:Nat→Nat→Int}{U p T:Mc}{vs:List Int}(hm:faultM m=0)(h:NrmU m x t H U p T vs)(X Y:List Int):MinEq (Costs m X Y) fun d=>∃ c,Costs x X Y c∧(d:Int)=(c:Int)+t:=by
 have h1:MinEq (Costs m X Y) (Costs (remM H m) X Y):=⟨fun c k=>costs_rem hm h.hop h.over k,fun c k=>⟨c,Nat.le_refl _,rem_costs hm h.hop h.over k⟩⟩
 have h2:MinEq (Costs (remM H m) X Y) (Costs U X Y):=by
  by_cases hz:0≤(remM H m).1
  ·have:=cer_costs h.rrem hz h.cer X Y
   exact⟨this.2,fun c k=>⟨c,Nat.le_refl _,this.1 c k⟩⟩
  ·have hE:=cer_none h.rrem h.emp (by omega)
   rw[h.cer]at hE;have eU:U=(-1,[]):=congrArg Prod.fst hE;refine⟨fun c k=>?_,fun c k=>?_⟩
   ·have:=k.1
    omega
   ·have:=k.1
    rw[eU]at this;exact absurd this (by decide)
 have hb:=h.sml.both X Y;refine(h1.trans h2).trans (MinEq.of fun d=>⟨fun k=>?_,fun ⟨c,k1,k2⟩=>?_⟩)
 ·obtain ⟨c,k1,k2⟩:=hb.2 d k
  exact⟨c,k1,k2⟩
 ·obtain ⟨d',k3,k4⟩:=hb.1 c k1
  have:d=d':=by omega
  rw[this];exact k3
theorem NrmU.means {a b x:Mc}{t:Int}{H K:Nat→Nat→Int}{U p T U' p' T':Mc}{vs vs':List Int}(ha:faultM a=0)(hb:faultM b=0)(h:NrmU a x t H U p T vs)(k:NrmU b x t K U' p' T' vs'){X Y:List Int}{n k':Int}(hn:CstIs (Costs a X Y) n)(hk:CstIs (Costs b X Y) k'):n=k':=
 ((h.costs ha X Y).trans (k.costs hb X Y).symm).cst hn hk
theorem emp_perm {l:List St}{f:List Ar→List Ar}(hf:∀ l,(f l).Perm l){k w j:Nat}:EmpE (l.map fun s=>(s.1,f s.2)) k w j↔EmpE l k w j:=by
 have e:∀ a,a ∈ (el (l.map fun s=>(s.1,f s.2)) k).2↔a ∈ (el l k).2:=fun a=>by
  by_cases hk:k<l.length
  ·rw [jja2 hk]
   exact(hf _).mem_iff
  ·have e1:el (l.map fun s=>(s.1,f s.2)) k=default:=by simp[el,List.getElem?_eq_none (show(l.map fun s=>(s.1,f s.2)).length≤k by simpa using hk)]
   have e2:el l k=default:=by simp[el,List.getElem?_eq_none (show l.length≤k by omega)]
   rw[e1,e2]
 unfold EmpE;exact⟨fun ⟨a,h1,h2⟩=>⟨a,(e a).1 h1,h2⟩,fun ⟨a,h1,h2⟩=>⟨a,(e a).2 h1,h2⟩⟩
theorem sort_same {l r:List Ar}(h:l.Perm r):sortS false l=sortS false r:=by
 rw[jjdk,jjdk,jjdg,jjdg];exact jjfh ((jjb2 l).trans h) (jjbq l)
theorem rem_perm {m:Mc}{f:List Ar→List Ar}(hf:∀ l,(f l).Perm l)(H:Nat→Nat→Int):remM H (mapM f m)=remM H m:=by
  have hl:(mapM f m).2.length=m.2.length:=by simp[mapM]
  have hst:∀ p,p<m.2.length→el (mapM f m).2 p=((el m.2 p).1,f (el m.2 p).2):=fun p hp=>by unfold mapM;rw[jja2 hp]
  have h1:∀ q k,k≤m.2.length→remFin H (mapM f m).2 q k=remFin H m.2 q k:=fun q k=>by
    induction k with
    | zero=>intro _;rfl
    | succ k ih=>intro hk;simp only[remFin];rw[ih (by omega),hst k (by omega)]
  have h2:∀ q k,k≤m.2.length→(remArc H (mapM f m).2 q k).Perm (remArc H m.2 q k):=fun q k=>by
    induction k with
    | zero=>intro _;exact List.Perm.refl _
    | succ k ih=>
      intro hk;simp only[remArc];refine(ih (by omega)).append ?_
      rw[hst k (by omega)];split
      · exact List.Perm.refl _
      · unfold remOf
        exact((hf _).filter _).map _
  unfold remM;rw[hl];refine congrArg (Prod.mk m.1) (List.map_congr_left fun q hq=>?_)
  unfold remS remL;rw[hl,h1 q _ (Nat.le_refl _),sort_same (h2 q _ (Nat.le_refl _))]
theorem nrm_perm {m x:Mc}{t e:Int}{f:List Ar→List Ar}(hm:SmlM m)(hf:∀ l,(f l).Perm l)(h:NrmAns (mapM f m) x t e)(hk:SmlM (mapM f m)):NrmAns m x t e:=by
 obtain⟨H,hH,h⟩:=h
 have hH:=hH hk.right;have hl:(mapM f m).2.length=m.2.length:=by simp[mapM]
 have hH':HopT m H:=fun q p hq hp=>by
  have h1:=hH q p (by omega) (by omega);have e:HopC (mapM f m).2 q p=HopC m.2 q p:=by
   have:EmpE (mapM f m).2=EmpE m.2:=funext fun k=>funext fun w=>funext fun j=>propext (emp_perm hf)
   funext c
   unfold HopC;rw[this]
  rw[e]at h1;exact h1
 refine⟨H,fun _=>hH',?_⟩
 rw[(hk.rem hH).1,(hk.rem hH).2,rem_perm hf]at h;rw[(hm.rem hH').1,(hm.rem hH').2];exact h
theorem made_sml (r:Int × List (Int × Bool × List Ar))(hf:faultM (madeM r 4 false)=0)(hl:(madeM r 4 false).2.length≤4)(ha:arcN (madeM r 4 false).2≤16):SmlM (madeM r 4 false):=
 ⟨hf,made_nine r 4 false,by omega,Nat.le_trans (Nat.mul_le_mul hl ha) (by omega)⟩
theorem arcN_perm {l:List St}{f:List Ar→List Ar}(hf:∀ l,(f l).Perm l):arcN (l.map fun s=>(s.1,f s.2))=arcN l:=by
 induction l with
 | nil=>rfl
 | cons s l ih=>rw [List.map_cons,jjfw,jjfw,ih,(hf s.2).length_eq]
theorem sml_perm {m:Mc}(h:SmlM m){f:List Ar→List Ar}(hf:∀ l,(f l).Perm l):SmlM (mapM f m):=by
 have hl:(mapM f m).2.length=m.2.length:=by simp[mapM]
 refine⟨fault_map (fun l=>by rw[(hf l).length_eq];exact Nat.le_refl _) (fun l a ha=>(hf l).mem_iff.1 ha) h.right,fun s hs=>?_,by rw[hl];exact h.len,?_⟩
 ·simp only[mapM]at hs
  obtain⟨x,hx,rfl⟩:=List.mem_map.1 hs
  exact⟨(h.nine x hx).1,fun a ha=>(h.nine x hx).2 a ((hf x.2).mem_iff.1 ha)⟩
 ·rw [hl]
  have:arcN (mapM f m).2=arcN m.2:=arcN_perm hf;rw[this];exact h.arcs
theorem nrm_alt {m:Mc}(h:SmlM m):(∃ x t,NrmAns m x t 0)∨∀ x t e,NrmAns m x t e→e=5:=by
 by_cases g:∃ x t,NrmAns m x t 0
 ·exact .inl g
 ·refine .inr fun x t e hN=>?_
  rcases h.two hN with⟨h5,_⟩ | ⟨rfl,_⟩
  ·exact h5
  ·exact absurd ⟨x,t,hN⟩ g
theorem sam_fin {a b x y:Mc}{t s e:Int}{yes:Bool}(ha:faultM a=0)(hb:faultM b=0)(h:NrmAns a x t 0)(k:NrmAns b y s 0)(hS:SamAns a b yes e):e=0∧(yes=true↔t=s∧x=y):=by
 rcases hS with⟨h0,_⟩ | ⟨_,h0,_⟩ | ⟨_,_,x',t',f,hN,g⟩
 ·exact absurd ha h0
 ·exact absurd hb h0
 ·obtain ⟨rfl,rfl,rfl⟩:=h.one hN
  rcases g with⟨g,_⟩ | ⟨_,y',s',g',hK,g⟩
  ·exact absurd rfl g
  ·obtain ⟨rfl,rfl,rfl⟩:=k.one hK
   rcases g with⟨g,_⟩ | ⟨_,g1,g2⟩
   ·exact absurd rfl g
   ·exact ⟨g2,g1⟩
theorem sam_means {a b x:Mc}{t:Int}(ha:SmlM a)(hb:SmlM b)(h:NrmAns a x t 0)(k:NrmAns b x t 0){X Y:List Int}{n m:Int}(hn:CstIs (Costs a X Y) n)(hm:CstIs (Costs b X Y) m):n=m:=by
 rcases ha.two h with⟨h5,_⟩ | ⟨_,H,U,p,T,vs,hU⟩
 ·exact absurd h5 (by decide)
 ·rcases hb.two k with⟨h5,_⟩ | ⟨_,K,U',p',T',vs',hU'⟩
  ·exact absurd h5 (by decide)
  ·exact hU.means ha.right hb.right hU' hn hm
end Go.Proofs.YtppkiejhhmahcaaGreatDoor.Pl
