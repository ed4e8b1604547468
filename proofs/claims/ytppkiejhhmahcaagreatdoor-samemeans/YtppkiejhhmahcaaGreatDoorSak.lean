/- Facts, joined. -/
import Derived.Test.YtppkiejhhmahcaaGreatDoorSaj
set_option linter.unusedSimpArgs false
set_option linter.unusedVariables false
namespace Go.Proofs.YtppkiejhhmahcaaGreatDoor.Pl
def empA (a:Ar):Bool:=decide (a.1=0)&&decide (a.2.1=0)
theorem empA_iff {a:Ar}:empA a=true↔a.1=0∧a.2.1=0:=by simp[empA]
def EmpE (l:List St)(k w j:Nat):Prop:=∃ a ∈ (el l k).2,empA a=true∧a.2.2.2=(j:Int)∧w=a.2.2.1.toNat
def HopC (l:List St)(q p c:Nat):Prop:=∃ n,Run (EmpE l) q n p c
def HopT (m:Mc)(H:Nat→Nat→Int):Prop:=∀ q p,q<m.2.length→p<m.2.length→TldQ (HopC m.2 q p) (H q p)
theorem emp_arc {l:List St}{k w j:Nat}(h:EmpE l k w j):ArcE l k w j:=by
 obtain⟨a,h1,_,h2,h3⟩:=h
 exact⟨a,h1,h2,h3⟩
theorem jjbz {m:Mc}(h:faultM m=0){k w j:Nat}(e:EmpE m.2 k w j):j<m.2.length∧w≤1000000000:=jjeh h (emp_arc e)
theorem LstV.told {m:Mc}(h:faultM m=0){q p:Nat}{b:Int}(hb:LstV (EmpE m.2) m.2.length q p b):TldQ (HopC m.2 q p) b:=by
 have h60:=(jjae (z:=m.1) (l:=m.2) h).1;have e1:∀ c,HopC m.2 q p c→Via (EmpE m.2) m.2.length q p c:=fun c ⟨n,hn⟩=>run_via (fun k w j e=>(jjbz h e).1) hn
 rcases hb with⟨rfl,hb⟩ | ⟨c,hc,rfl,hl⟩
 ·exact .inl ⟨rfl,fun c hc=>hb c (e1 c hc)⟩
 ·have:(m.2.length+1)*1000000000≤61*1000000000:=Nat.mul_le_mul_right _ (by omega)
  exact .inr ⟨c,⟨hc.1.run,fun d hd=>hc.2 d (e1 d hd)⟩,rfl,by omega⟩
theorem TldQ.one {P:Nat→Prop}{a b:Int}(h:TldQ P a)(g:TldQ P b):a=b:=by
 rcases h with⟨rfl,h⟩ | ⟨c,h,rfl,_⟩<;>rcases g with⟨rfl,g⟩ | ⟨d,g,rfl,_⟩
 ·rfl
 ·exact absurd g.1 (h _)
 ·exact absurd h.1 (g _)
 ·rw [h.one g]
theorem least_of {P:Nat→Prop}{c:Nat}(h:P c):∃ d,LeastP P d:=by
  induction c using Nat.strongRecOn with
  | _ c ih=>
    by_cases g:∃ d,d<c∧P d
    · obtain⟨d,h1,h2⟩:=g
      exact ih d h1 h2
    · exact⟨c,h,fun d hd=>by
        rcases Nat.lt_or_ge d c with h1 | h1
        · exact absurd ⟨d,h1,hd⟩ g
        · exact h1⟩
theorem hop_told {m:Mc}(h:faultM m=0)(q p:Nat):∃ b,TldQ (HopC m.2 q p) b:=by
 have h60:=(jjae (z:=m.1) (l:=m.2) h).1;by_cases g:∃ c,HopC m.2 q p c
 ·obtain ⟨c,hc⟩:=g
  obtain⟨d,hd⟩:=least_of hc
  obtain⟨n,hn⟩:=hd.1
  obtain⟨d',_,h2,h3⟩:=(run_via (fun k w j e=>(jjbz h e).1) hn).cheap (W:=1000000000) (fun x w y e=>(jjbz h e).2)
  have h4:=hd.2 d' h3.run;have:(m.2.length+1)*1000000000≤61*1000000000:=Nat.mul_le_mul_right _ (by omega);exact⟨(d:Int),.inr ⟨d,hd,rfl,by omega⟩⟩
 ·exact ⟨noneI,.inl ⟨rfl,fun c hc=>g ⟨c,hc⟩⟩⟩
theorem hopT_exists {m:Mc}(h:faultM m=0):∃ H,HopT m H:=⟨fun q p=>Classical.choose (hop_told h q p),fun q p _ _=>Classical.choose_spec (hop_told h q p)⟩
theorem TldQ.bd {P:Nat→Prop}{b:Int}(h:TldQ P b):0≤b∧(b=noneI∨b≤100000000000):=by
 rcases h with⟨rfl,_⟩ | ⟨c,_,rfl,hc⟩
 ·exact ⟨by decide,.inl rfl⟩
 ·exact ⟨by omega,.inr (by omega)⟩
def RowI (l:List St)(q j:Nat)(row:List Int):Prop:=row.length=l.length∧∀ p,p<l.length→(el row p=noneI∨∃ c:Nat,Via (EmpE l) 0 q p c∧el row p=(c:Int))∧(q=p→el row p≤0)∧∀ i,i<j→empA (el (el l q).2 i)=true→(el (el l q).2 i).2.2.2=(p:Int)→el row p≤(el (el l q).2 i).2.2.1
theorem rowI_start {l:List St}{q:Nat}(hq:q<l.length):RowI l q 0 ((List.replicate l.length noneI).set q 0):=by
 refine⟨by simp,fun p hp=>?_⟩
 rw[el_set (by simpa using hp)];by_cases e:q=p
 ·subst e
  rw[if_pos rfl];exact⟨.inr ⟨0,.nil q,rfl⟩,fun _=>Int.le_refl _,fun i hi=>by omega⟩
 ·rw [if_neg e,jjd0 hp]
  exact⟨.inl rfl,fun h=>absurd h e,fun i hi=>by omega⟩
theorem rowI_skip {l:List St}{q j:Nat}{row:List Int}(h:RowI l q j row)(hn:empA (el (el l q).2 j)=false∨∀ p,p<l.length→(el (el l q).2 j).2.2.2=(p:Int)→el row p≤(el (el l q).2 j).2.2.1):RowI l q (j+1) row:=by
 refine⟨h.1,fun p hp=>⟨(h.2 p hp).1,(h.2 p hp).2.1,fun i hi h1 h2=>?_⟩⟩
 by_cases e:i=j
 ·subst e
  rcases hn with hn | hn
  ·rw [hn]at h1;cases h1
  ·exact hn p hp h2
 ·exact (h.2 p hp).2.2 i (by omega) h1 h2
theorem rowI_set {l:List St}{q j t:Nat}{row:List Int}(h:RowI l q j row)(hj:j<(el l q).2.length)(he:empA (el (el l q).2 j)=true)(ht:(el (el l q).2 j).2.2.2=(t:Int))(htl:t<l.length)(h0:0≤(el (el l q).2 j).2.2.1)(hl:(el (el l q).2 j).2.2.1<el row t):RowI l q (j+1) (row.set t (el (el l q).2 j).2.2.1):=by
 refine⟨by rw[List.length_set];exact h.1,fun p hp=>?_⟩
 rw[el_set (by rw[h.1];exact hp)];by_cases e:t=p
 ·subst e
  rw[if_pos rfl];refine⟨.inr ⟨(el (el l q).2 j).2.2.1.toNat,.arc ⟨_,jjac hj,he,ht,rfl⟩,by omega⟩,fun hq=>?_,fun i hi h1 h2=>?_⟩
  ·have:=(h.2 t hp).2.1 hq;omega
  ·by_cases ei:i=j
   ·subst ei;exact Int.le_refl _
   ·have:=(h.2 t hp).2.2 i (by omega) h1 h2;omega
 ·rw [if_neg e]
  refine⟨(h.2 p hp).1,(h.2 p hp).2.1,fun i hi h1 h2=>?_⟩
  by_cases ei:i=j
  ·subst ei;rw[ht]at h2;omega
  ·exact (h.2 p hp).2.2 i (by omega) h1 h2
theorem rowI_end {m:Mc}(hr:faultM m=0){q:Nat}{row:List Int}(h:RowI m.2 q (el m.2 q).2.length row){p:Nat}(hp:p<m.2.length)(hq:q<m.2.length):LstV (EmpE m.2) 0 q p (el row p):=by
  refine LstV.mk (fun x w y e=>(jjbz hr e).2) (h.2 p hp).1 (fun c hc=>?_) (by omega)
  cases hc with
  | nil=>exact (h.2 _ hp).2.1 rfl
  | arc e=>
    obtain⟨a,ha,he,ht,hw⟩:=e
    obtain⟨i,hi,rfl⟩:=List.getElem_of_mem ha
    rw[← jjaj hi]at he ht hw;have h1:=(h.2 p hp).2.2 i hi he ht;have h3:=(jjag hr).2 (el m.2 q) (jjac hq);simp only[stB,Bool.and_eq_true,List.all_eq_true]at h3;have h4:=h3.2 _ (jjac hi);simp only[arcB,inB,Bool.and_eq_true,decide_eq_true_eq]at h4;omega
  | step e hj _=>omega
def FwQ (l:List St)(k q p:Nat)(d:List (List Int)):Prop:=d.length=l.length∧(∀ q',q'<l.length→(el d q').length=l.length)∧∀ q' p',q'<l.length→p'<l.length→LstV (EmpE l) (if q'<q∨(q'=q∧p'<p) then k+1 else k) q' p' (el (el d q') p')
theorem fw_row {l:List St}{k q:Nat}{d:List (List Int)}(h:FwQ l k q l.length d):FwQ l k (q+1) 0 d:=by
 refine⟨h.1,h.2.1,fun q' p' h1 h2=>?_⟩
 have h3:=h.2.2 q' p' h1 h2;by_cases e:q'<q∨(q'=q∧p'<l.length)
 ·rw [if_pos e]at h3;rw[if_pos (by omega)];exact h3
 ·rw [if_neg e]at h3;rw[if_neg (by omega)];exact h3
theorem fw_round {l:List St}{k:Nat}{d:List (List Int)}(h:FwQ l k l.length 0 d):FwQ l (k+1) 0 0 d:=by
 refine⟨h.1,h.2.1,fun q' p' h1 h2=>?_⟩
 have h3:=h.2.2 q' p' h1 h2;rw[if_pos (.inl h1)]at h3;rw[if_neg (by omega)];exact h3
theorem fw_end {m:Mc}(hr:faultM m=0){d:List (List Int)}(h:FwQ m.2 m.2.length 0 0 d):HopT m (fun q p=>el (el d q) p):=fun q p hq hp=>by
 have h3:=h.2.2 q p hq hp;rw[if_neg (by omega)]at h3;exact h3.told hr
theorem FwQ.at {m:Mc}(hr:faultM m=0){k q p:Nat}{d:List (List Int)}(h:FwQ m.2 k q p d)(hk:k<m.2.length)(hq:q<m.2.length)(hp:p<m.2.length):LstV (EmpE m.2) k q p (el (el d q) p)∧LstV (EmpE m.2) k q k (el (el d q) k)∧LstV (EmpE m.2) k k p (el (el d k) p):=by
 have h60:=(jjae (z:=m.1) (l:=m.2) hr).1;have hW:∀ x w y,EmpE m.2 x w y→w≤1000000000:=fun x w y e=>(jjbz hr e).2
 refine⟨?_,?_,?_⟩
 ·have h3:=h.2.2 q p hq hp
  rw[if_neg (by omega)]at h3;exact h3
 ·have h3:=h.2.2 q k hq hk
  by_cases e:q<q∨(q=q∧k<p)
  ·rw [if_pos e]at h3;exact h3.colK hW (by omega)
  ·rw [if_neg e]at h3;exact h3
 ·have h3:=h.2.2 k p hk hp
  by_cases e:k<q∨(k=q∧p<p)
  ·rw [if_pos e]at h3;exact h3.rowK hW (by omega)
  ·rw [if_neg e]at h3;exact h3
theorem FwQ.bd {m:Mc}(hr:faultM m=0){k q p:Nat}{d:List (List Int)}(h:FwQ m.2 k q p d)(hk:k<m.2.length){q' p':Nat}(hq:q'<m.2.length)(hp:p'<m.2.length):0≤el (el d q') p'∧(el (el d q') p'=noneI∨el (el d q') p'≤61000000000):=by
 have h60:=(jjae (z:=m.1) (l:=m.2) hr).1;exact(h.2.2 q' p' hq hp).bd (by split<;>omega)
def putD (d:List (List Int))(q p:Nat)(v:Int):List (List Int):=d.set q ((el d q).set p v)
theorem fw_same {m:Mc}(hr:faultM m=0){k q p:Nat}{d:List (List Int)}(h:FwQ m.2 k q p d)(hk:k<m.2.length)(hq:q<m.2.length)(hp:p<m.2.length)(hn:¬ (el (el d q) k≠noneI∧el (el d k) p≠noneI∧el (el d q) k+el (el d k) p<el (el d q) p)):FwQ m.2 k q (p+1) d:=by
 have h60:=(jjae (z:=m.1) (l:=m.2) hr).1;obtain⟨a,b,c⟩:=h.at hr hk hq hp
 have s:=LstV.step (fun x w y e=>(jjbz hr e).2) (by omega) a b c;rw[if_neg hn]at s;refine⟨h.1,h.2.1,fun q' p' h1 h2=>?_⟩
 by_cases e:q'=q∧p'=p
 ·obtain ⟨rfl,rfl⟩:=e
  rw[if_pos (.inr ⟨rfl,by omega⟩)];exact s
 ·have h3:=h.2.2 q' p' h1 h2
  by_cases e2:q'<q∨(q'=q∧p'<p)
  ·rw [if_pos e2]at h3;rw[if_pos (by omega)];exact h3
  ·rw [if_neg e2]at h3;rw[if_neg (by omega)];exact h3
theorem fw_less {m:Mc}(hr:faultM m=0){k q p:Nat}{d:List (List Int)}(h:FwQ m.2 k q p d)(hk:k<m.2.length)(hq:q<m.2.length)(hp:p<m.2.length)(hn:el (el d q) k≠noneI∧el (el d k) p≠noneI∧el (el d q) k+el (el d k) p<el (el d q) p):FwQ m.2 k q (p+1) (putD d q p (el (el d q) k+el (el d k) p)):=by
 have h60:=(jjae (z:=m.1) (l:=m.2) hr).1;obtain⟨a,b,c⟩:=h.at hr hk hq hp
 have s:=LstV.step (fun x w y e=>(jjbz hr e).2) (by omega) a b c;rw[if_pos hn]at s;unfold putD;refine⟨by rw[List.length_set];exact h.1,fun q' hq'=>?_,fun q' p' h1 h2=>?_⟩
 ·rw [el_set (by rw[h.1];exact hq')]
  split
  ·rw [List.length_set];exact h.2.1 q hq
  ·exact h.2.1 q' hq'
 ·rw [el_set (by rw[h.1];exact h1)]
  by_cases eq:q=q'
  ·subst eq
   rw[if_pos rfl,el_set (by rw[h.2.1 q hq];exact h2)];by_cases ep:p=p'
   ·subst ep
    rw[if_pos rfl,if_pos (.inr ⟨rfl,by omega⟩)];exact s
   ·rw [if_neg ep]
    have h3:=h.2.2 q p' h1 h2;by_cases e2:q<q∨(q=q∧p'<p)
    ·rw [if_pos e2]at h3;rw[if_pos (by omega)];exact h3
    ·rw [if_neg e2]at h3;rw[if_neg (by omega)];exact h3
  ·rw [if_neg eq]
   have h3:=h.2.2 q' p' h1 h2;by_cases e2:q'<q∨(q'=q∧p'<p)
   ·rw [if_pos e2]at h3;rw[if_pos (by omega)];exact h3
   ·rw [if_neg e2]at h3;rw[if_neg (by omega)];exact h3
def RowsT (l:List St)(q:Nat)(d:List (List Int)):Prop:=d.length=q∧∀ q',q'<q→RowI l q' (el l q').2.length (el d q')
theorem rowsT_snoc {l:List St}{q:Nat}{d:List (List Int)}{row:List Int}(h:RowsT l q d)(hr:RowI l q (el l q).2.length row):RowsT l (q+1) (d++[row]):=by
 refine⟨by simp[h.1],fun q' hq'=>?_⟩
 by_cases e:q'<q
 ·rw [jjbc (by rw[h.1];exact e)];exact h.2 q' e
 ·obtain rfl:q'=q:=by omega
  rw[← h.1,jjbu,h.1];exact hr
theorem fw_start {m:Mc}(hr:faultM m=0){d:List (List Int)}(h:RowsT m.2 m.2.length d):FwQ m.2 0 0 0 d:=by
 refine⟨h.1,fun q' hq'=>(h.2 q' hq').1,fun q' p' h1 h2=>?_⟩
 rw[if_neg (by omega)];exact rowI_end hr (h.2 q' h1) h2 h1
theorem jjc7 (a:Ar):aheadB a a=false:=by rw[jja3];omega
theorem ahead_lt {a b c:Ar}(h1:aheadB a b=true)(h2:aheadB b c=true):aheadB a c=true:=by
 rw[jjdc]at *;omega
theorem jjfg {a b:Ar}(h1:aheadB a b=true):aheadB b a=false:=by
 rw[jjdc]at h1;rw[jja3];omega
theorem jjdf {a b:Ar}(h1:aheadB a b=false)(h2:aheadB b a=false):a=b:=by
 obtain⟨a0,a1,a2,a3⟩:=a
 obtain⟨b0,b1,b2,b3⟩:=b
 rw[jja3]at *;simp only at h1 h2;have e0:a0=b0:=by omega
 have e1:a1=b1:=by omega
 have e2:a2=b2:=by omega
 have e3:a3=b3:=by omega
 rw[e0,e1,e2,e3]
def leB (a b:Ar):Bool:= !aheadB b a
def sortL (l:List Ar):List Ar:=l.mergeSort leB
theorem leB_trans (a b c:Ar)(h1:leB a b=true)(h2:leB b c=true):leB a c=true:=by
 simp only[leB,Bool.not_eq_true']at *;exact jjcw h1 h2
theorem leB_total (a b:Ar):(leB a b||leB b a)=true:=by
 simp only[leB,Bool.or_eq_true,Bool.not_eq_true'];rcases jjam (aheadB b a)with h | h
 ·exact .inr (jjfg h)
 ·exact .inl h
theorem jjb2 (l:List Ar):(sortL l).Perm l:=List.mergeSort_perm _ _
theorem sortL_length (l:List Ar):(sortL l).length=l.length:=(jjb2 l).length_eq
theorem jjbq (l:List Ar):(sortL l).Pairwise fun a b=>leB a b=true:=List.pairwise_mergeSort leB_trans leB_total l
theorem jjfh {l r:List Ar}(hp:r.Perm l)(hr:r.Pairwise fun a b=>leB a b=true):r=sortL l:=by
 refine List.Perm.eq_of_pairwise (le:=fun x y=>leB x y=true) ?_ hr (jjbq l) (hp.trans (jjb2 l).symm)
 intro a b _ _ h1 h2;simp only[leB,Bool.not_eq_true']at h1 h2;exact jjdf h2 h1
def placeL :List Ar→Ar→List Ar
 | [],a=>[a]
 | x::l,a=>if aheadB a x=true then a::x::l else x::placeL l a
theorem jjfi (l:List Ar)(a:Ar):(placeL l a).Perm (a::l):=by
  induction l with
  | nil=>exact List.Perm.refl _
  | cons x l ih=>
    simp only[placeL];split
    · exact List.Perm.refl _
    · exact(List.Perm.cons x ih).trans (List.Perm.swap a x l)
theorem placeL_pair {l:List Ar}(h:l.Pairwise fun a b=>leB a b=true)(a:Ar):(placeL l a).Pairwise fun a b=>leB a b=true:=by
  induction l with
  | nil=>simp [placeL]
  | cons x l ih=>
    rw[List.pairwise_cons]at h;simp only[placeL];split
    · rename_i hx
      rw[List.pairwise_cons,List.pairwise_cons];have hax:leB a x=true:=by simp[leB,jjfg hx]
      refine⟨fun y hy=>?_,h.1,h.2⟩
      rcases List.mem_cons.1 hy with rfl | hy
      · exact hax
      · exact leB_trans _ _ _ hax (h.1 y hy)
    · rename_i hx
      rw[List.pairwise_cons];refine⟨fun y hy=>?_,ih h.2⟩
      rcases List.mem_cons.1 ((jjfi l a).mem_iff.1 hy)with rfl | hy
      · simpa [leB] using hx
      · exact h.1 y hy
def ordL (l:List Ar):List Ar:=l.foldl placeL []
theorem ordL_spec (l r:List Ar)(h:r.Pairwise fun a b=>leB a b=true):(l.foldl placeL r).Perm (l++r)∧(l.foldl placeL r).Pairwise fun a b=>leB a b=true:=by
  induction l generalizing r with
  | nil=>exact ⟨List.Perm.refl _,h⟩
  | cons x l ih=>
    obtain⟨h1,h2⟩:=ih (placeL r x) (placeL_pair h x)
    refine⟨h1.trans ?_,h2⟩
    exact((jjfi r x).append_left l).trans (List.perm_middle (l₁:=l) (a:=x) (l₂:=r))
theorem jjdg (l:List Ar):ordL l=sortL l:=by
 obtain⟨h1,h2⟩:=ordL_spec l [] List.Pairwise.nil
 exact jjfh (by rw[List.append_nil]at h1;exact h1) h2
def flipA (a:Ar):Ar:=(a.2.1,a.1,a.2.2.1,a.2.2.2)
def aheadS (s:Bool)(a b:Ar):Bool:=if s then aheadB (flipA a) (flipA b) else aheadB a b
def sortS (s:Bool)(l:List Ar):List Ar:=l.mergeSort fun a b=> !aheadS s b a
theorem jjdk (l:List Ar):sortS false l=ordL l:=by rw[jjdg];rfl
theorem jjbh (s:Bool)(l:List Ar):(sortS s l).Perm l:=List.mergeSort_perm _ _
theorem jjbk (s:Bool)(l:List Ar):(sortS s l).length=l.length:=(jjbh s l).length_eq
def alikeB (a b:Ar):Bool:=decide (a.1=b.1)&&decide (a.2.1=b.2.1)&&decide (a.2.2.2=b.2.2.2)
def lightFrom (p:Ar):List Ar→List Ar
 | []=>[]
 | x::l=>if alikeB x p=true then lightFrom x l else x::lightFrom x l
def lightL :List Ar→List Ar
 | []=>[]
 | a::l=>a::lightFrom a l
theorem lightFrom_le (p:Ar)(l:List Ar):(lightFrom p l).length≤l.length:=by
 induction l generalizing p with
 | nil=>simp [lightFrom]
 | cons x l ih=>simp only[lightFrom];split<;>simp<;>have:=ih x<;>omega
theorem lightL_le (l:List Ar):(lightL l).length≤l.length:=by
 cases l with
 | nil=>simp [lightL]
 | cons a l=>simp [lightL,lightFrom_le a l]
def mapM (f:List Ar→List Ar)(m:Mc):Mc:=(m.1,m.2.map fun s=>(s.1,f s.2))
def cmpS (s:Bool)(a b:Ar):Int:=if s then orI (cmpI a.2.1 b.2.1) (cmpI a.1 b.1) (cmpI a.2.2.2 b.2.2.2) (cmpI a.2.2.1 b.2.2.1) else orI (cmpI a.1 b.1) (cmpI a.2.1 b.2.1) (cmpI a.2.2.2 b.2.2.2) (cmpI a.2.2.1 b.2.2.1)
theorem cmpS_neg (s:Bool)(a b:Ar):decide (cmpS s a b<0)=aheadS s a b:=by
 cases s
 ·exact orI_neg a b
 ·exact orI_neg (flipA a) (flipA b)
def hwA (c:Int)(a:Ar):Ar:=(a.1,a.2.1,c+a.2.2.1,a.2.2.2)
def remFin (H:Nat→Nat→Int)(l:List St)(q:Nat):Nat→Int
 | 0=>noneI
 | p+1=>if H q p≠noneI∧(el l p).1≠1000000001∧H q p+(el l p).1<remFin H l q p then H q p+(el l p).1 else remFin H l q p
def remOf (c:Int)(ar:List Ar):List Ar:=(ar.filter fun a=> !empA a).map (hwA c)
def remArc (H:Nat→Nat→Int)(l:List St)(q:Nat):Nat→List Ar
 | 0=>[]
 | p+1=>remArc H l q p++(if H q p=noneI then[] else remOf (H q p) (el l p).2)
def remL (H:Nat→Nat→Int)(l:List St)(q:Nat):List Ar:=lightL (sortS false (remArc H l q l.length))
def remS (H:Nat→Nat→Int)(l:List St)(q:Nat):St:=(tldN (remFin H l q l.length),remL H l q)
def bigA (a:Ar):Bool:=decide (1000000000<a.2.2.1)
def ovB (H:Nat→Nat→Int)(l:List St)(q:Nat):Bool:=decide (tldE (remFin H l q l.length)≠0)||(remL H l q).any bigA
def ovTo (H:Nat→Nat→Int)(l:List St):Nat→Bool
 | 0=>false
 | q+1=>ovTo H l q||ovB H l q
def remM (H:Nat→Nat→Int)(m:Mc):Mc:=(m.1,(List.range m.2.length).map (remS H m.2))
def remR (H:Nat→Nat→Int)(m:Mc):Mc:=if faultM m≠0 then(0,[]) else if ovTo H m.2 m.2.length=true then(0,[]) else fitM (remM H m)
def remE (H:Nat→Nat→Int)(m:Mc):Int:=if faultM m≠0 then faultM m else if ovTo H m.2 m.2.length=true then 4 else fitE (remM H m)
theorem remOf_take {c:Int}{ar:List Ar}{i:Nat}(h:i<ar.length):remOf c (ar.take (i+1))=remOf c (ar.take i)++(if empA (el ar i)=true then[] else[hwA c (el ar i)]):=by
 unfold remOf;rw[jja0 h,List.filter_append,List.map_append];congr 1
 cases hb:empA (el ar i)<;>simp [hb]
theorem remOf_le (c:Int)(ar:List Ar):(remOf c ar).length≤ar.length:=by
 unfold remOf;rw[List.length_map];exact List.length_filter_le _ _
theorem jjfj (H:Nat→Nat→Int)(l:List St)(q:Nat):∀ p,p≤l.length→(remArc H l q p).length≤arcN (l.take p)
  | 0,_=>by simp[remArc]
  | p+1,h=>by
    have h1:=jjfj H l q p (by omega);have h2:=remOf_le (H q p) (el l p).2;have h3:=jjbf (show p<l.length by omega);simp only[remArc,List.length_append];split<;>simp<;>omega
theorem remL_le (H:Nat→Nat→Int)(l:List St)(q:Nat):(remL H l q).length≤arcN l:=by
 have h1:=lightL_le (sortS false (remArc H l q l.length));have h2:=jjbk false (remArc H l q l.length);have h3:=jjfj H l q l.length (Nat.le_refl _);rw[List.take_length]at h3;unfold remL;omega
theorem jjen {H K:Nat→Nat→Int}{l:List St}{q:Nat}:∀ {p:Nat},(∀ p',p'<p→H q p'=K q p')→remFin H l q p=remFin K l q p
  | 0,_=>rfl
  | p+1,h=>by
    have h1:=jjen (l:=l) (p:=p) (fun p' hp=>h p' (by omega));simp only[remFin];rw[h p (by omega),h1]
theorem jjeo {H K:Nat→Nat→Int}{l:List St}{q:Nat}:∀ {p:Nat},(∀ p',p'<p→H q p'=K q p')→remArc H l q p=remArc K l q p
  | 0,_=>rfl
  | p+1,h=>by
    have h1:=jjeo (l:=l) (p:=p) (fun p' hp=>h p' (by omega));simp only[remArc];rw[h p (by omega),h1]
theorem remS_congr {H K:Nat→Nat→Int}{l:List St}{q:Nat}(h:∀ p,p<l.length→H q p=K q p):remS H l q=remS K l q∧ovB H l q=ovB K l q:=by
 unfold remS ovB remL;rw[jjen h,jjeo h];exact⟨rfl,rfl⟩
theorem ovTo_congr {H K:Nat→Nat→Int}{l:List St}:∀ {n:Nat},n≤l.length→(∀ q p,q<l.length→p<l.length→H q p=K q p)→ovTo H l n=ovTo K l n
  | 0,_,_=>rfl
  | n+1,hn,h=>by
    simp only[ovTo];rw[ovTo_congr (n:=n) (by omega) h,(remS_congr (fun p hp=>h n p (by omega) hp)).2]
theorem rem_one {m:Mc}{H K:Nat→Nat→Int}(h:faultM m=0→HopT m H)(k:faultM m=0→HopT m K):remR H m=remR K m∧remE H m=remE K m:=by
 unfold remR remE;by_cases h0:faultM m=0
 ·have e:∀ q p,q<m.2.length→p<m.2.length→H q p=K q p:=fun q p hq hp=>(h h0 q p hq hp).one (k h0 q p hq hp)
  have e1:remM H m=remM K m:=by
   unfold remM;refine congrArg (Prod.mk m.1) (List.map_congr_left fun q hq=>?_)
   exact(remS_congr (fun p hp=>e q p (by simpa using hq) hp)).1
  rw[ovTo_congr (Nat.le_refl _) e,e1];exact⟨rfl,rfl⟩
 ·rw [if_pos h0,if_pos h0,if_pos h0,if_pos h0]
  exact⟨rfl,rfl⟩
theorem jjdl (H:Nat→Nat→Int)(m:Mc):(remM H m).2.length=m.2.length:=by simp[remM]
theorem rem_el (H:Nat→Nat→Int)(m:Mc){q:Nat}(hq:q<m.2.length):el (remM H m).2 q=remS H m.2 q:=jjan _ hq
theorem remR_ok (H:Nat→Nat→Int)(m:Mc):okM (remR H m):=by
 have hz:okM (0,[]):=⟨by simp,fun j hj=>absurd hj (by simp)⟩
 unfold remR fitM;split
 ·exact hz
 ·split
  ·exact hz
  ·split
   ·rename_i h
    simp only[sizeB,Bool.and_eq_true,decide_eq_true_eq]at h;exact small_ok (by omega) (by omega)
   ·exact hz
theorem any_take {l:List Ar}{i:Nat}(h:i<l.length)(f:Ar→Bool):(l.take (i+1)).any f=((l.take i).any f||f (el l i)):=by rw[jja0 h];simp
theorem jjdm (l:List Ar):sortS false l=sortL l:=rfl
theorem arcN_map {f:List Ar→List Ar}(hf:∀ l,(f l).length≤l.length)(l:List St):arcN (l.map fun s=>(s.1,f s.2))≤arcN l:=by
 induction l with
 | nil=>simp [arcN]
 | cons s l ih=>have:=hf s.2;simp only[List.map_cons,arcN];omega
theorem fault_map {f:List Ar→List Ar}(hf:∀ l,(f l).length≤l.length)(hs:∀ l a,a ∈ f l→a ∈ l){m:Mc}(h:faultM m=0):faultM (mapM f m)=0:=by
 obtain⟨h1,h2⟩:=jjax h
 have h3:=arcN_map hf m.2;refine jjb4 ?_ ?_
 ·simp only[sizeB,mapM,Bool.and_eq_true,decide_eq_true_eq,List.length_map]at h1 ⊢
  exact⟨h1.1,decide_eq_true (Nat.le_trans h3 h1.2)⟩
 ·simp only[rangeB,mapM,Bool.and_eq_true,List.length_map,List.all_eq_true]at h2 ⊢
  refine⟨h2.1,fun s hs'=>?_⟩
  simp only[List.mem_map]at hs';obtain⟨t,ht,rfl⟩:=hs'
  have h4:=h2.2 t ht;simp only[stB,Bool.and_eq_true,List.all_eq_true]at h4 ⊢;exact⟨h4.1,fun a ha=>h4.2 a (hs _ a ha)⟩
def lessB (y x:Ar):Bool:=decide (y.1=x.1)&&decide (y.2.1=x.2.1)&&decide (y.2.2.2=x.2.2.2)&&decide (y.2.2.1≤x.2.2.1)
theorem alike_iff {a b:Ar}:alikeB a b=true↔a.1=b.1∧a.2.1=b.2.1∧a.2.2.2=b.2.2.2:=by simp[alikeB,and_assoc]
theorem less_iff {a b:Ar}:lessB a b=true↔a.1=b.1∧a.2.1=b.2.1∧a.2.2.2=b.2.2.2∧a.2.2.1≤b.2.2.1:=by simp[lessB,and_assoc]
theorem leB_iff {a b:Ar}:leB a b=true↔¬ (b.1<a.1∨b.1=a.1∧(b.2.1<a.2.1∨b.2.1=a.2.1∧(b.2.2.2<a.2.2.2∨b.2.2.2=a.2.2.2∧b.2.2.1<a.2.2.1))):=by
 rw[← jja3];simp[leB]
theorem jjd2 {p:Ar}{l:List Ar}{y:Ar}(h:y ∈ lightFrom p l):y ∈ l:=by
  induction l generalizing p with
  | nil=>simp [lightFrom]at h
  | cons x l ih=>
    simp only[lightFrom]at h;split at h
    · exact List.mem_cons_of_mem _ (ih h)
    · rcases List.mem_cons.1 h with rfl | h
      · exact List.mem_cons_self
      · exact List.mem_cons_of_mem _ (ih h)
theorem lightL_mem {l:List Ar}{y:Ar}(h:y ∈ lightL l):y ∈ l:=by
  cases l with
  | nil=>simp [lightL]at h
  | cons a l=>
    rcases List.mem_cons.1 h with rfl | h
    · exact List.mem_cons_self
    · exact List.mem_cons_of_mem _ (jjd2 h)
theorem jjfk {p:Ar}{l:List Ar}(h:(p::l).Pairwise fun a b=>leB a b=true):(∀ y ∈ lightFrom p l,alikeB y p=false)∧(lightFrom p l).Pairwise fun a b=>alikeB b a=false:=by
  induction l generalizing p with
  | nil=>simp [lightFrom]
  | cons x l ih=>
    rw[List.pairwise_cons]at h;obtain⟨i1,i2⟩:=ih h.2
    have hpx:=leB_iff.1 (h.1 x List.mem_cons_self);simp only[lightFrom];split
    · rename_i hx
      refine⟨fun y hy=>?_,i2⟩
      have h1:=i1 y hy;rcases jjam (alikeB y p)with h2 | h2
      · rw[alike_iff]at hx h2
        have h3:alikeB y x=true:=alike_iff.2 (by omega);rw[h3]at h1;cases h1
      · exact h2
    · rename_i hx
      refine⟨fun y hy=>?_,?_⟩
      · rcases List.mem_cons.1 hy with rfl | hy
        · simpa using hx
        · have hyl:=jjd2 hy
          have hxy:=leB_iff.1 ((List.pairwise_cons.1 h.2).1 y hyl);rcases jjam (alikeB y p)with h2 | h2
          · rw[alike_iff]at h2
            exact absurd (alike_iff.2 (by omega)) hx
          · exact h2
      · rw[List.pairwise_cons]
        exact⟨fun y hy=>i1 y hy,i2⟩
theorem light_has {p:Ar}{l:List Ar}(h:(p::l).Pairwise fun a b=>leB a b=true):∀ x ∈ l,lessB p x=true∨∃ y ∈ lightFrom p l,lessB y x=true:=by
  induction l generalizing p with
  | nil=>simp
  | cons x l ih=>
    rw[List.pairwise_cons]at h;have i1:=ih h.2;have hpx:=leB_iff.1 (h.1 x List.mem_cons_self);intro z hz;simp only[lightFrom];split
    · rename_i hx
      rw[alike_iff]at hx;have hl:lessB p x=true:=less_iff.2 (by omega);rcases List.mem_cons.1 hz with rfl | hz
      · exact .inl hl
      · rcases i1 z hz with h1 | ⟨y,hy,h1⟩
        · rw[less_iff]at hl h1
          exact .inl (less_iff.2 (by omega))
        · exact .inr ⟨y,hy,h1⟩
    · rcases List.mem_cons.1 hz with rfl | hz
      · exact .inr ⟨z,List.mem_cons_self,less_iff.2 (by omega)⟩
      · rcases i1 z hz with h1 | ⟨y,hy,h1⟩
        · exact .inr ⟨x,List.mem_cons_self,h1⟩
        · exact .inr ⟨y,List.mem_cons_of_mem _ hy,h1⟩
theorem count_one {l:List Ar}{p:Ar→Bool}(h:l.Pairwise fun a b=>¬ (p a=true∧p b=true)):l.countP p≤1:=by
  induction l with
  | nil=>simp
  | cons a l ih=>
    rw[List.pairwise_cons]at h;have i1:=ih h.2;rcases jjam (p a)with ha | ha
    · have h0:l.countP p=0:=List.countP_eq_zero.2 (fun b hb hb'=>h.1 b hb ⟨ha,hb'⟩)
      simp[ha,h0]
    · simp[ha,i1]
theorem jjfl {l:List Ar}{x:Ar}(hx:x ∈ l):(lightL (sortS false l)).countP (fun y=>lessB y x)=1:=by
  have hp:=jjbq l;have hx':x ∈ sortS false l:=(jjbh false l).mem_iff.2 hx;rw[jjdm]at hx' ⊢;cases hs:sortL l with
  | nil=>rw [hs]at hx';simp at hx'
  | cons a r=>
    rw[hs]at hp hx';obtain⟨h1,h2⟩:=jjfk hp
    have h3:=light_has hp;have ap:(lightL (a::r)).Pairwise fun a b=>¬ (lessB a x=true∧lessB b x=true):=by
      have hq:(lightL (a::r)).Pairwise fun a b=>alikeB b a=false:=by
        rw[lightL,List.pairwise_cons];exact⟨h1,h2⟩
      refine hq.imp ?_
      intro b c hbc hh;obtain⟨q1,q2⟩:=hh
      rw[less_iff]at q1 q2;have:alikeB c b=true:=alike_iff.2 (by omega);rw[this]at hbc;cases hbc
    have hle:=count_one ap;have hge:0<(lightL (a::r)).countP (fun y=>lessB y x):=by
      rw[List.countP_pos_iff];rcases List.mem_cons.1 hx' with rfl | hr
      · exact⟨x,List.mem_cons_self,less_iff.2 (by omega)⟩
      · rcases h3 x hr with h4 | ⟨y,hy,h4⟩
        · exact⟨a,List.mem_cons_self,h4⟩
        · exact⟨y,List.mem_cons_of_mem _ hy,h4⟩
    omega
theorem jjd3 (l:List Ar)(a:Ar)(h:a ∈ lightL (sortS false l)):a ∈ l:=(jjbh false l).mem_iff.1 (lightL_mem h)
theorem merge_le (l:List Ar):(lightL (sortS false l)).length≤l.length:=by have:=lightL_le (sortS false l);rw[jjbk]at this;exact this
end Go.Proofs.YtppkiejhhmahcaaGreatDoor.Pl
