/- Facts, joined. -/
import Derived.Test.YtppkiejhhmahcaaGreatDoorSak
set_option linter.unusedSimpArgs false
set_option linter.unusedVariables false
set_option maxHeartbeats 3200000
set_option maxRecDepth 100000
namespace Go.Proofs.YtppkiejhhmahcaaGreatDoor.Pl
def aptI :Int:=4611686018427387903
def toA (x:Int):Int:=if x=noneI then aptI else x
def rowA (r:List Int):List Int:=r.map toA
theorem rowA_len (r:List Int):(rowA r).length=r.length:=by simp[rowA]
theorem el_rowA {r:List Int}{p:Nat}(h:p<r.length):el (rowA r) p=toA (el r p):=jja2 h _
theorem rowA_set (r:List Int)(p:Nat)(x:Int):(rowA r).set p (toA x)=rowA (r.set p x):=by simp[rowA,List.map_set]
def newV (x1 x2 x3:Int):Int:=if x1≠noneI∧x2≠noneI∧x1+x2<x3 then x1+x2 else x3
theorem toA_new {x1 x2 x3:Int}(h1:0≤x1∧(x1=noneI∨x1≤61000000000))(h2:0≤x2∧(x2=noneI∨x2≤61000000000))(h3:0≤x3∧(x3=noneI∨x3≤61000000000)):(if toA x1+toA x2<toA x3 then toA x1+toA x2 else toA x3)=toA (newV x1 x2 x3):=by
 unfold newV toA aptI noneI at *;by_cases e1:x1=1152921504606846976<;>by_cases e2:x2=1152921504606846976<;>by_cases e3:x3=1152921504606846976<;>simp only[e1,e2,e3,if_true,if_false,ne_eq,not_true,not_false_iff,true_and,false_and,and_false]<;>split<;>(try split)<;>(try split)<;>omega
theorem toA_bd {x:Int}(h:0≤x∧(x=noneI∨x≤61000000000)):0≤toA x∧toA x≤4611686018427387903:=by
 unfold toA aptI noneI at *;split<;>omega
theorem putD_same {d:List (List Int)}{q p:Nat}(hq:q<d.length)(hp:p<(el d q).length):putD d q p (el (el d q) p)=d:=by
 have e1:(el d q).set p (el (el d q) p)=el d q:=by
  rw[jjaj hp];simp
 unfold putD;rw[e1,jjaj hq];simp
theorem fw_put {m:Mc}(hr:faultM m=0){k q p:Nat}{d:List (List Int)}{x:Int}(h:FwQ m.2 k q p d)(hx:LstV (EmpE m.2) k q k x)(hk:k<m.2.length)(hq:q<m.2.length)(hp:p<m.2.length):FwQ m.2 k q (p+1) (putD d q p (newV x (el (el d k) p) (el (el d q) p))):=by
 have e:el (el d q) k=x:=(h.at hr hk hq hp).2.1.one hx;subst e;unfold newV;split
 ·rename_i g
  exact fw_less hr h hk hq hp g
 ·rename_i g
  rw[putD_same (by rw[h.1];exact hq) (by rw[h.2.1 q hq];exact hp)];exact fw_same hr h hk hq hp g
theorem fw_first {m:Mc}(hr:faultM m=0){k q:Nat}{d:List (List Int)}(h:FwQ m.2 k q 0 d)(hk:k<m.2.length)(hq:q<m.2.length):LstV (EmpE m.2) k q k (el (el d q) k):=(h.at hr hk hq (p:=0) (by omega)).2.1
def lowV (w x:Int):Int:=if w<x then w else x
theorem toA_low {w x:Int}(hw:w≤1000000000)(hx:x=noneI∨x≤100000000000):(if w<toA x then w else toA x)=toA (lowV w x):=by
 unfold lowV toA aptI noneI at *;by_cases e:x=1152921504606846976<;>simp only[e,if_true,if_false]<;>split<;>(try split)<;>(try split)<;>omega
theorem set_same {row:List Int}{t:Nat}(h:t<row.length):row.set t (el row t)=row:=by rw[jjaj h];simp
theorem rowI_low {l:List St}{q j t:Nat}{row:List Int}(h:RowI l q j row)(hj:j<(el l q).2.length)(he:empA (el (el l q).2 j)=true)(ht:(el (el l q).2 j).2.2.2=(t:Int))(htl:t<l.length)(h0:0≤(el (el l q).2 j).2.2.1):RowI l q (j+1) (row.set t (lowV (el (el l q).2 j).2.2.1 (el row t))):=by
 unfold lowV;split
 ·rename_i hl
  exact rowI_set h hj he ht htl h0 hl
 ·rename_i hl
  rw[set_same (by rw[h.1];exact htl)];refine rowI_skip h (.inr fun p hp hpe=>?_)
  rw[ht]at hpe;obtain rfl:t=p:=by omega
  omega
theorem rowI_bd {m:Mc}(hr:faultM m=0){q j:Nat}{row:List Int}(h:RowI m.2 q j row){p:Nat}(hp:p<m.2.length):el row p=noneI∨el row p≤100000000000:=by
 rcases(h.2 p hp).1 with e | ⟨c,hv,e⟩
 ·exact .inl e
 ·right
  cases hv with
  | nil=>rw [e];omega
  | arc g=>have:=(jjbz hr g).2;omega
  | step _ hj _=>omega
def laddL :List Ar→Ar→List Ar
 | [],a=>[a]
 | x::l,a=>if alikeB x a=true then(x.1,x.2.1,lowV a.2.2.1 x.2.2.1,x.2.2.2)::l else x::laddL l a
def ligL (l:List Ar):List Ar:=l.foldl laddL []
theorem ligL_snoc (l:List Ar)(a:Ar):ligL (l++[a])=laddL (ligL l) a:=by simp[ligL]
theorem ladd_new {l:List Ar}{a:Ar}(h:∀ x ∈ l,alikeB x a=false):laddL l a=l++[a]:=by
  induction l with
  | nil=>rfl
  | cons x l ih=>
    simp only[laddL];rw[if_neg (by rw[h x List.mem_cons_self];simp),ih (fun y hy=>h y (List.mem_cons_of_mem _ hy))];rfl
def ApaL (l:List Ar):Prop:=l.Pairwise fun x y=>alikeB x y=false
theorem ladd_old {l:List Ar}{a:Ar}{i:Nat}(hp:ApaL l)(hi:i<l.length)(h:alikeB (el l i) a=true):laddL l a=l.set i ((el l i).1,(el l i).2.1,lowV a.2.2.1 (el l i).2.2.1,(el l i).2.2.2):=by
  induction l generalizing i with
  | nil=>simp at hi
  | cons x l ih=>
    have hp':=List.pairwise_cons.1 hp;simp only[laddL];cases i with
    | zero=>
      rw[jjbj]at h ⊢;rw[if_pos h];rfl
    | succ i=>
      rw[jjbt]at h ⊢;have hi':i<l.length:=by simpa using hi
      have hx:¬ alikeB x a=true:=fun hx=>by
        have h1:=hp'.1 _ (jjac hi');rw[alike_iff]at hx h;have:alikeB x (el l i)=true:=alike_iff.2 (by omega);rw[this]at h1;cases h1
      rw[if_neg hx,ih hp'.2 hi' h];rfl
theorem ladd_mem {l:List Ar}{a y:Ar}(h:y ∈ laddL l a):(y=a∧∀ x ∈ l,alikeB x a=false)∨y ∈ l∨(∃ x ∈ l,alikeB x a=true∧y=(x.1,x.2.1,lowV a.2.2.1 x.2.2.1,x.2.2.2)):=by
  induction l with
  | nil=>simp [laddL]at h;exact .inl ⟨h,by simp⟩
  | cons x l ih=>
    simp only[laddL]at h;split at h
    · rename_i hx
      rcases List.mem_cons.1 h with h | h
      · exact .inr (.inr ⟨x,List.mem_cons_self,hx,h⟩)
      · exact .inr (.inl (List.mem_cons_of_mem _ h))
    · rename_i hx
      rcases List.mem_cons.1 h with h | h
      · exact .inr (.inl (h▸List.mem_cons_self))
      · rcases ih h with⟨h1,h2⟩ | h1 | ⟨z,hz,h1⟩
        · refine .inl ⟨h1,fun z hz=>?_⟩
          rcases List.mem_cons.1 hz with rfl | hz
          · simpa using hx
          · exact h2 z hz
        · exact .inr (.inl (List.mem_cons_of_mem _ h1))
        · exact .inr (.inr ⟨z,List.mem_cons_of_mem _ hz,h1⟩)
theorem ladd_apart {l:List Ar}{a:Ar}(h:ApaL l):ApaL (laddL l a):=by
  induction l with
  | nil=>simp [laddL,ApaL]
  | cons x l ih=>
    have h':=List.pairwise_cons.1 h;simp only[laddL];split
    · rename_i hx
      exact List.pairwise_cons.2 ⟨fun y hy=>h'.1 y hy,h'.2⟩
    · rename_i hx
      refine List.pairwise_cons.2 ⟨fun y hy=>?_,ih h'.2⟩
      rcases ladd_mem hy with⟨rfl,_⟩ | hy | ⟨z,hz,hza,rfl⟩
      · simpa using hx
      · exact h'.1 y hy
      · exact h'.1 z hz
theorem ladd_has {l:List Ar}{a:Ar}:(∃ y ∈ laddL l a,lessB y a=true)∧∀ x ∈ l,∃ y ∈ laddL l a,lessB y x=true:=by
  induction l with
  | nil=>exact ⟨⟨a,by simp[laddL],less_iff.2 ⟨rfl,rfl,rfl,Int.le_refl _⟩⟩,by simp⟩
  | cons x l ih=>
    simp only[laddL];split
    · rename_i hx
      have hx':=alike_iff.1 hx;have e1:lowV a.2.2.1 x.2.2.1≤a.2.2.1∧lowV a.2.2.1 x.2.2.1≤x.2.2.1:=by unfold lowV;split<;>omega
      refine⟨⟨_,List.mem_cons_self,less_iff.2 ⟨hx'.1,hx'.2.1,hx'.2.2,e1.1⟩⟩,fun z hz=>?_⟩
      rcases List.mem_cons.1 hz with rfl | hz
      · exact⟨_,List.mem_cons_self,less_iff.2 ⟨rfl,rfl,rfl,e1.2⟩⟩
      · exact⟨z,List.mem_cons_of_mem _ hz,less_iff.2 ⟨rfl,rfl,rfl,Int.le_refl _⟩⟩
    · refine⟨?_,fun z hz=>?_⟩
      · obtain⟨y,hy,h⟩:=ih.1
        exact⟨y,List.mem_cons_of_mem _ hy,h⟩
      · rcases List.mem_cons.1 hz with rfl | hz
        · exact⟨z,List.mem_cons_self,less_iff.2 ⟨rfl,rfl,rfl,Int.le_refl _⟩⟩
        · obtain⟨y,hy,h⟩:=ih.2 z hz
          exact⟨y,List.mem_cons_of_mem _ hy,h⟩
theorem alike_eq {x a:Ar}(h:alikeB x a=true):(x.1,x.2.1,lowV a.2.2.1 x.2.2.1,x.2.2.2)=x∨(x.1,x.2.1,lowV a.2.2.1 x.2.2.1,x.2.2.2)=a:=by
 obtain⟨x0,x1,x2,x3⟩:=x
 obtain⟨a0,a1,a2,a3⟩:=a
 have h:=alike_iff.1 h;simp only at h;obtain⟨rfl,rfl,rfl⟩:=h
 unfold lowV;simp only;split<;>simp
theorem jjfm (l:List Ar):ApaL (ligL l)∧(∀ y ∈ ligL l,y ∈ l)∧∀ x ∈ l,∃ y ∈ ligL l,lessB y x=true:=by
  obtain⟨n,hn⟩:∃ n,l.length=n:=⟨_,rfl⟩
  induction n generalizing l with
  | zero=>
    obtain rfl:l=[]:=List.eq_nil_of_length_eq_zero hn
    exact⟨List.Pairwise.nil,by simp[ligL],by simp⟩
  | succ n ih=>
    obtain⟨r,a,rfl⟩:∃ r a,l=r++[a]:=by
      have:=jja0 (l:=l) (k:=n) (by omega);rw[show n+1=l.length from hn.symm,List.take_length]at this;exact⟨_,_,this⟩
    obtain⟨h1,h2,h3⟩:=ih r (by simpa using hn)
    rw[ligL_snoc];refine⟨ladd_apart h1,fun y hy=>?_,fun x hx=>?_⟩
    · rcases ladd_mem hy with⟨rfl,_⟩ | hy | ⟨x,hx,hxa,rfl⟩
      · simp
      · exact List.mem_append_left _ (h2 y hy)
      · rcases alike_eq hxa with e | e
        · rw[e];exact List.mem_append_left _ (h2 x hx)
        · rw[e];simp
    · rcases List.mem_append.1 hx with hx | hx
      · obtain⟨y,hy,h4⟩:=h3 x hx
        obtain⟨z,hz,h5⟩:=(ladd_has (a:=a)).2 y hy
        refine⟨z,hz,less_iff.2 ?_⟩
        rw[less_iff]at h4 h5;omega
      · obtain rfl:x=a:=by simpa using hx
        exact ladd_has.1
theorem light_facts (l:List Ar):(lightL (sortS false l)).Pairwise (fun x y=>alikeB x y=false)∧(∀ x ∈ l,∃ y ∈ lightL (sortS false l),lessB y x=true):=by
  refine⟨?_,fun x hx=>?_⟩
  · have hp:=jjbq l
    rw[jjdm];cases hs:sortL l with
    | nil=>exact List.Pairwise.nil
    | cons a r=>
      rw[hs]at hp;obtain⟨h1,h2⟩:=jjfk hp
      have sy:∀ x y:Ar,alikeB y x=false→alikeB x y=false:=fun x y h=>by
        rcases jjam (alikeB x y)with g | g
        · rw[alike_iff]at g
          have:alikeB y x=true:=alike_iff.2 (by omega);rw[this]at h;cases h
        · exact g
      rw[lightL,List.pairwise_cons];exact⟨fun y hy=>sy _ _ (h1 y hy),h2.imp (fun {x y} h=>sy _ _ h)⟩
  · have:=jjfl hx
    obtain⟨y,hy,h⟩:=List.countP_pos_iff.1 (show 0<(lightL (sortS false l)).countP (fun y=>lessB y x) by omega)
    exact⟨y,hy,h⟩
theorem apa_nodup {l:List Ar}(h:ApaL l):l.Nodup:=h.imp (fun {x y} h e=>by
 subst e
 have:alikeB x x=true:=alike_iff.2 ⟨rfl,rfl,rfl⟩
 rw[this]at h;cases h)
theorem apa_one {l:List Ar}(h:ApaL l){x y:Ar}(hx:x ∈ l)(hy:y ∈ l)(e:alikeB x y=true):x=y:=by
  induction l with
  | nil=>simp at hx
  | cons z l ih=>
    have h':=List.pairwise_cons.1 h;have sy:alikeB y x=true:=alike_iff.2 (by rw[alike_iff]at e;omega);rcases List.mem_cons.1 hx with rfl | hx1<;>rcases List.mem_cons.1 hy with rfl | hy1
    · rfl
    · rw[h'.1 y hy1]at e;cases e
    · rw[h'.1 x hx1]at sy;cases sy
    · exact ih h'.2 hx1 hy1
theorem lig_sub {A B l:List Ar}(hA:ApaL A)(hAl:∀ y ∈ A,y ∈ l)(hAm:∀ x ∈ l,∃ y ∈ A,lessB y x=true)(hBl:∀ y ∈ B,y ∈ l)(hBm:∀ x ∈ l,∃ y ∈ B,lessB y x=true):∀ x ∈ A,x ∈ B:=fun x hx=>by
 obtain⟨y,hy,h1⟩:=hBm x (hAl x hx)
 obtain⟨z,hz,h2⟩:=hAm y (hBl y hy)
 rw[less_iff]at h1 h2;have e:z=x:=apa_one hA hz hx (alike_iff.2 (by omega));subst e;have:y=z:=by
  obtain⟨y0,y1,y2,y3⟩:=y
  obtain⟨z0,z1,z2,z3⟩:=z
  simp only at h1 h2;simp only[Prod.mk.injEq];omega
 subst this;exact hy
theorem jjez (l:List Ar):(ligL l).Perm (lightL (sortS false l)):=by
 obtain⟨a1,a2,a3⟩:=jjfm l
 obtain⟨b1,b3⟩:=light_facts l
 have b2:∀ y ∈ lightL (sortS false l),y ∈ l:=jjd3 l;exact(List.perm_ext_iff_of_nodup (apa_nodup a1) (apa_nodup b1)).2 fun x=>⟨lig_sub a1 a2 a3 b2 b3 x,lig_sub b1 b2 b3 a2 a3 x⟩
theorem lightFrom_sub (p:Ar)(l:List Ar):(lightFrom p l).Sublist l:=by
  induction l generalizing p with
  | nil=>exact List.Sublist.refl _
  | cons x l ih=>
    simp only[lightFrom];split
    · exact(ih x).cons _
    · exact(ih x).cons_cons _
theorem lightL_sub (l:List Ar):(lightL l).Sublist l:=by
 cases l with
 | nil=>exact List.Sublist.refl _
 | cons a l=>exact (lightFrom_sub a l).cons_cons _
theorem lig_sort (l:List Ar):sortS false (ligL l)=lightL (sortS false l):=by
 rw[jjdm];refine(jjfh (jjez l).symm ?_).symm
 exact(jjbq l).sublist (lightL_sub _)
theorem lig_any (l:List Ar)(f:Ar→Bool):(ligL l).any f=(lightL (sortS false l)).any f:=by
 rcases jjam ((lightL (sortS false l)).any f)with g | g
 ·rw [g]
  obtain⟨x,hx,hf⟩:=List.any_eq_true.1 g
  exact List.any_eq_true.2 ⟨x,(jjez l).mem_iff.2 hx,hf⟩
 ·rw [g]
  rw[List.any_eq_false]at g ⊢;exact fun x hx=>g x ((jjez l).mem_iff.1 hx)
theorem lig_len (l:List Ar):(ligL l).length=(lightL (sortS false l)).length:=(jjez l).length_eq
theorem lig_le (l:List Ar):(ligL l).length≤l.length:=by rw[lig_len];exact merge_le l
theorem jjfn {H:Nat→Nat→Int}{l:List St}{q:Nat}(hH:∀ p,p<l.length→0≤H q p∧(H q p=noneI∨H q p≤100000000000))(hf:∀ p,p<l.length→0≤(el l p).1∧(el l p).1≤1000000001):∀ p,p≤l.length→0≤remFin H l q p∧(remFin H l q p=noneI∨remFin H l q p≤102000000000)
  | 0,_=>⟨by simp only[remFin];unfold noneI;omega,.inl rfl⟩
  | p+1,h=>by
    have ih:=jjfn hH hf p (by omega);have h1:=hH p (by omega);have h2:=hf p (by omega);simp only[remFin];split
    · rename_i g
      exact⟨by omega,.inr (by omega)⟩
    · exact ih
theorem toA_fin {f0 c f:Int}(h0:f0=noneI∨f0≤102000000000)(hc:c≤100000000000)(hf:f≤1000000000):(if c+f<toA f0 then c+f else toA f0)=toA (if c+f<f0 then c+f else f0):=by
 unfold toA aptI noneI at *;by_cases e:f0=1152921504606846976<;>simp only[e,if_true,if_false]<;>split<;>(try split)<;>(try split)<;>omega
theorem remFin_more {H:Nat→Nat→Int}{l:List St}{q p:Nat}(hc:H q p≠noneI)(hf:(el l p).1≠1000000001):remFin H l q (p+1)=if H q p+(el l p).1<remFin H l q p then H q p+(el l p).1 else remFin H l q p:=by
 simp only[remFin];by_cases g:H q p+(el l p).1<remFin H l q p
 ·rw [if_pos ⟨hc,hf,g⟩,if_pos g]
 ·rw [if_neg (fun x=>g x.2.2),if_neg g]
theorem remFin_skip {H:Nat→Nat→Int}{l:List St}{q p:Nat}(h:H q p=noneI∨(el l p).1=1000000001):remFin H l q (p+1)=remFin H l q p:=by
 simp only[remFin];rw[if_neg (fun x=>by rcases h with h | h;exact x.1 h;exact x.2.1 h)]
theorem remArc_skip {H:Nat→Nat→Int}{l:List St}{q p:Nat}(h:H q p=noneI):remArc H l q (p+1)=remArc H l q p:=by
 simp only[remArc];rw[if_pos h,List.append_nil]
theorem remArc_more {H:Nat→Nat→Int}{l:List St}{q p:Nat}(h:H q p≠noneI):remArc H l q (p+1)=remArc H l q p++remOf (H q p) (el l p).2:=by
 simp only[remArc];rw[if_neg h]
theorem lig_take {L:List Ar}{c:Int}{ar:List Ar}{i:Nat}(h:i<ar.length)(he:empA (el ar i)=true):ligL (L++remOf c (ar.take (i+1)))=ligL (L++remOf c (ar.take i)):=by
 rw[remOf_take h,if_pos he,List.append_nil]
theorem lig_next {L:List Ar}{c:Int}{ar:List Ar}{i:Nat}(h:i<ar.length)(he:empA (el ar i)=false):ligL (L++remOf c (ar.take (i+1)))=laddL (ligL (L++remOf c (ar.take i))) (hwA c (el ar i)):=by
 rw[remOf_take h,if_neg (by rw[he];simp),← List.append_assoc,ligL_snoc]
theorem remArc_len {m:Mc}(hr:faultM m=0)(H:Nat→Nat→Int)(q p:Nat)(hp:p≤m.2.length):(remArc H m.2 q p).length≤400:=by
 have h1:=jjfj H m.2 q p hp;have h2:=jjed m.2 p;have h3:=(jjae (z:=m.1) (l:=m.2) hr).2;omega
def gatS (H:Nat→Nat→Int)(l:List St)(q:Nat):St:=(tldN (remFin H l q l.length),ligL (remArc H l q l.length))
def gatM (H:Nat→Nat→Int)(m:Mc):Mc:=(m.1,(List.range m.2.length).map (gatS H m.2))
theorem gat_sort (H:Nat→Nat→Int)(m:Mc):mapM (sortS false) (gatM H m)=remM H m:=by
 unfold mapM gatM remM;simp only[List.map_map];refine congrArg (Prod.mk m.1) (List.map_congr_left fun q _=>?_)
 show(_,sortS false (ligL _))=remS H m.2 q;rw[lig_sort];rfl
theorem jjcd (H:Nat→Nat→Int)(m:Mc):(gatM H m).2.length=m.2.length:=by simp[gatM]
theorem gat_el (H:Nat→Nat→Int)(m:Mc){q:Nat}(hq:q<m.2.length):el (gatM H m).2 q=gatS H m.2 q:=jjan _ hq
theorem gatS_len (H:Nat→Nat→Int)(l:List St)(q:Nat):(gatS H l q).2.length=(remS H l q).2.length:=lig_len _
theorem ovB_iff {H:Nat→Nat→Int}{l:List St}{q:Nat}:ovB H l q=true↔(ligL (remArc H l q l.length)).any bigA=true∨tldE (remFin H l q l.length)≠0:=by
 unfold ovB remL;rw[lig_any,Bool.or_eq_true,decide_eq_true_eq];exact Or.comm
theorem remArc_in {m:Mc}(hr:faultM m=0){H:Nat→Nat→Int}{q:Nat}(hH:∀ p,p<m.2.length→0≤H q p):∀ p,p≤m.2.length→∀ a ∈ remArc H m.2 q p,0≤a.1∧a.1≤1000∧0≤a.2.1∧a.2.1≤1000∧0≤a.2.2.1∧0≤a.2.2.2∧a.2.2.2≤(m.2.length:Int)-1
  | 0,_,a,ha=>by simp[remArc]at ha
  | p+1,h,a,ha=>by
    simp only[remArc]at ha;rcases List.mem_append.1 ha with ha | ha
    · exact remArc_in hr hH p (by omega) a ha
    · split at ha
      · simp at ha
      · unfold remOf at ha
        simp only[List.mem_map,List.mem_filter]at ha;obtain⟨b,⟨hb,_⟩,rfl⟩:=ha
        have h3:=(jjag hr).2 (el m.2 p) (jjac (by omega));simp only[stB,Bool.and_eq_true,List.all_eq_true]at h3;have h4:=h3.2 b hb;simp only[arcB,inB,Bool.and_eq_true,decide_eq_true_eq]at h4;have h5:=hH p (by omega);simp only[hwA];omega
theorem arcN_congr {l r:List St}(hl:l.length=r.length)(h:∀ j,j<l.length→(el l j).2.length=(el r j).2.length):arcN l=arcN r:=by
  induction l generalizing r with
  | nil=>
    obtain rfl:r=[]:=List.eq_nil_of_length_eq_zero (by simpa using hl.symm)
    rfl
  | cons a l ih=>
    cases r with
    | nil=>simp at hl
    | cons b r=>
      have h0:=h 0 (by simp);rw[jjbj,jjbj]at h0;simp only[arcN];rw[h0,ih (by simpa using hl) (fun j hj=>by have:=h (j+1) (by simpa using hj);rwa [jjbt,jjbt]at this)]
theorem gat_arcN (H:Nat→Nat→Int)(m:Mc):arcN (gatM H m).2=arcN (remM H m).2:=arcN_congr (by rw[jjcd,jjdl]) fun j hj=>by
 rw[jjcd]at hj;rw[gat_el H m hj,rem_el H m hj];exact gatS_len H m.2 j
theorem ovTo_false {H:Nat→Nat→Int}{l:List St}:∀ {n:Nat},ovTo H l n=false→∀ q,q<n→ovB H l q=false
  | 0,_,q,hq=>by omega
  | n+1,h,q,hq=>by
    simp only[ovTo,Bool.or_eq_false_iff]at h;by_cases e:q=n
    · subst e;exact h.2
    · exact ovTo_false h.1 q (by omega)
theorem ovTo_true {H:Nat→Nat→Int}{l:List St}:∀ {n q:Nat},q<n→ovB H l q=true→ovTo H l n=true
  | 0,q,hq,_=>by omega
  | n+1,q,hq,h=>by
    simp only[ovTo,Bool.or_eq_true];by_cases e:q=n
    · subst e;exact .inr h
    · exact .inl (ovTo_true (q:=q) (by omega) h)
theorem tld_fin {b:Int}(h0:0≤b)(h:tldE b=0):finB (tldN b)=true:=by
 unfold tldE at h;unfold tldN finB inB;by_cases e:b=noneI
 ·rw [if_pos e];simp
 ·rw [if_neg e]at h ⊢
  by_cases g:1000000000<b
  ·rw [if_pos g]at h;cases h
  ·rw [if_neg g];simp;omega
theorem gat_right {m:Mc}(hr:faultM m=0){H:Nat→Nat→Int}(hH:∀ q p,q<m.2.length→p<m.2.length→0≤H q p∧(H q p=noneI∨H q p≤100000000000))(ho:ovTo H m.2 m.2.length=false)(hs:arcN (gatM H m).2≤400):faultM (gatM H m)=0:=by
 have h60:=(jjae (z:=m.1) (l:=m.2) hr).1;obtain⟨hz,hst⟩:=jjag hr
 have hfin:∀ p,p<m.2.length→0≤(el m.2 p).1∧(el m.2 p).1≤1000000001:=fun p hp=>by
  have:=(jjbv (z:=m.1) (l:=m.2) hr hp).1;simp only[finB,inB,Bool.or_eq_true,Bool.and_eq_true,decide_eq_true_eq]at this;omega
 refine jjb4 ?_ ?_
 ·simp only[sizeB,Bool.and_eq_true,decide_eq_true_eq]
  exact⟨by rw[jjcd];exact h60,hs⟩
 ·simp only[rangeB,Bool.and_eq_true,List.all_eq_true]
  refine⟨?_,fun s hsm=>?_⟩
  ·rw [jjcd]
   show inB m.1 _ _=true;simp only[inB,Bool.and_eq_true,decide_eq_true_eq];omega
  ·rw [jjcd]
   obtain⟨q,hq,rfl⟩:=jja1 hsm
   rw[jjcd]at hq;rw[gat_el H m hq];have hov:=ovTo_false ho q hq;have hov2:¬ ((ligL (remArc H m.2 q m.2.length)).any bigA=true∨tldE (remFin H m.2 q m.2.length)≠0):=fun g=>by
    rw[ovB_iff.2 g]at hov;cases hov
   have h1:(ligL (remArc H m.2 q m.2.length)).any bigA=false:=by
    rcases jjam ((ligL (remArc H m.2 q m.2.length)).any bigA)with g | g
    ·exact absurd (.inl g) hov2
    ·exact g
   have h2:tldE (remFin H m.2 q m.2.length)=0:=by
    rcases Decidable.em (tldE (remFin H m.2 q m.2.length)=0)with g | g
    ·exact g
    ·exact absurd (.inr g) hov2
   simp only[stB,Bool.and_eq_true,List.all_eq_true];refine⟨tld_fin (jjfn (fun p hp=>hH q p hq hp) hfin _ (Nat.le_refl _)).1 h2,fun a ha=>?_⟩
   have ha':a ∈ ligL (remArc H m.2 q m.2.length):=ha;have h3:=remArc_in hr (H:=H) (q:=q) (fun p hp=>(hH q p hq hp).1) _ (Nat.le_refl _) a ((jjfm _).2.1 a ha');have h4:=List.any_eq_false.1 h1 a ha';simp only[bigA,decide_eq_true_eq]at h4;simp only[arcB,inB,Bool.and_eq_true,decide_eq_true_eq];omega
theorem gat_take (H:Nat→Nat→Int)(m:Mc){k:Nat}(hk:k<m.2.length):arcN ((gatM H m).2.take (k+1))=arcN ((gatM H m).2.take k)+(ligL (remArc H m.2 k m.2.length)).length:=by
 rw[jjbf (by rw[jjcd];exact hk),gat_el H m hk];rfl
theorem gat_len400 {m:Mc}(hr:faultM m=0)(H:Nat→Nat→Int)(q:Nat):(ligL (remArc H m.2 q m.2.length)).length≤400:=Nat.le_trans (lig_le _) (remArc_len hr H q _ (Nat.le_refl _))
theorem gat_okM {m:Mc}(hr:faultM m=0)(H:Nat→Nat→Int):okM (gatM H m):=by
 have h60:=(jjae (z:=m.1) (l:=m.2) hr).1;refine⟨by rw[jjcd];omega,fun j hj=>?_⟩
 rw[jjcd]at hj;rw[gat_el H m hj]
 have:=gat_len400 hr H j;show(ligL (remArc H m.2 j m.2.length)).length*32≤_;omega
end Pl
namespace Wt
open ChangeShapes WideShapes ChangeAt RowKit Pl
theorem jje0 (a0 a1 a2 a3:Int)(w:World)(r:Bool)(hr:empA (a0,a1,a2,a3)=r):Calls Tryz.prog 93 #[.agg #[.int .i64 a0,.int .i64 a1,.int .i64 a2,.int .i64 a3]] w fun e w'=>e= .returned (.bool r)∧Below w.heap.size w w':=by
 by_cases h:a0=0
 ·subst h
  by_cases h1:a1=0
  ·subst h1
   obtain rfl:r=true:=by rw[← hr];rfl
   clear hr;go_enter Tryz.func93,Tryz.ntmps93;go_wp2;go_ret;exact⟨rfl,by go_grown⟩
  ·have hne:(a1==0)=false:=by simpa using h1
   obtain rfl:r=false:=by rw[← hr];simp[empA,h1]
   clear hr;go_enter Tryz.func93,Tryz.ntmps93;go_wp2;go_ret;exact⟨rfl,by go_grown⟩
 ·have hne:(a0==0)=false:=by simpa using h
  obtain rfl:r=false:=by rw[← hr];simp[empA,h]
  clear hr;go_enter Tryz.func93,Tryz.ntmps93;go_wp2;go_ret;exact⟨rfl,by go_grown⟩
theorem aptI_eq :aptI=4611686018427387903:=rfl
theorem made_zeroP (w:World)(n:Nat)(T:TypeId):Blk (w.alloc (.cells (Array.replicate n (Value.int .i64 0)) T)) w.heap.size ((List.replicate n (0:Int)).map (Value.int .i64)).toArray T:=by
 have e:((List.replicate n (0:Int)).map (Value.int .i64)).toArray=Array.replicate n (Value.int .i64 0):=by simp
 rw[e];exact Blk.made _ _ _
def HeldE1 (b:Nat)(p0 p1 p2 p3:Int)(g t:Nat)(x:Int)(w:World):Prop:=w.cell? ⟨b,0,none⟩=some (.int .i64 p0)∧w.cell? ⟨b,1,none⟩=some (.int .i64 p1)∧w.cell? ⟨b,2,none⟩=some (.int .i64 p2)∧w.cell? ⟨b,3,none⟩=some (.int .i64 p3)∧w.cell? ⟨g,t,none⟩=some (.int .i64 x)
theorem firstHops_any (z:Int)(l:List St)(q:Nat)(f:Int)(va:Value)(w:World)(hr:faultM (z,l)=0)(hq:q<l.length)(hA:Arcs w va (el l q).2):
  Calls Tryz.prog 90 #[.int .i64 (q:Int),.agg #[.int .i64 f,va],.int .i64 (l.length:Int)] w fun e w'=>e= .returned (.slice (some ⟨w.heap.size+1,0,none⟩) l.length l.length)∧(∃ row,RowI l q (el l q).2.length row∧Blk w' (w.heap.size+1) ((rowA row).map (Value.int .i64)).toArray 3)∧Below w.heap.size w w':=by
 have h60:l.length≤60:=(jjae hr).1;have HTO:Hid (∀ i,i<(el l q).2.length→(∃ t0:Nat,t0<l.length∧(el (el l q).2 i).2.2.2=(t0:Int))∧0≤(el (el l q).2 i).2.2.1∧(el (el l q).2 i).2.2.1≤1000000000):=fun i hi=>by
  have h3:=(jjag hr).2 (el l q) (jjac hq);simp only[stB,Bool.and_eq_true,List.all_eq_true]at h3;have h4:=h3.2 _ (jjac hi);simp only[arcB,inB,Bool.and_eq_true,decide_eq_true_eq]at h4;exact⟨⟨(el (el l q).2 i).2.2.2.toNat,by omega,by omega⟩,by omega,by omega⟩
 have hl4:(el l q).2.length≤400:=(jja7 hr q hq).2.1;have HRI:Hid (RowI l q 0 ((List.replicate l.length noneI).set q 0)):=rowI_start hq;have HBD:Hid (∀ j row,RowI l q j row→∀ p,p<l.length→el row p=noneI∨el row p≤100000000000):=fun j row h p hp=>rowI_bd (m:=(z,l)) hr h hp
 have HSK:Hid (∀ j row,RowI l q j row→empA (el (el l q).2 j)=false→RowI l q (j+1) row):=fun j row h g=>rowI_skip h (.inl g)
 have HSE:Hid (∀ (j t:Nat) (row:List Int),RowI l q j row→j<(el l q).2.length→empA (el (el l q).2 j)=true→(el (el l q).2 j).2.2.2=(t:Int)→t<l.length→0≤(el (el l q).2 j).2.2.1→RowI l q (j+1) (row.set t (lowV (el (el l q).2 j).2.2.1 (el row t)))):=fun j t row h hj he ht htl h0=>rowI_low h hj he ht htl h0
 have HSL:Hid (∀ j row,RowI l q j row→row.length=l.length):=fun j row h=>h.1
 obtain⟨a2,cap2,rfl,hc2⟩:=hA.get
 have HC2:=hidP hc2;clear hr hA hc2;obtain⟨ar,har⟩:∃ ar,(el l q).2=ar:=⟨_,rfl⟩
 rw[har]at hl4 HTO HSK HSE HC2 ⊢;clear har;generalize hn1:ar.length=n1 at *;generalize hn:l.length=n at *;have HN:=hidP hn;have HN1:=hidP hn1;clear hn hn1;have q0:(0:Int)≤(q:Int):=by omega
 have q1:(q:Int)<(n:Int):=by omega
 have hmk:=jjdd n (by omega);go_enter Tryz.func90,Tryz.ntmps90;go_wp2;clear hmk;go_loopw [15] (fun i wi=>∃ (k:Nat) (row:List Int),k≤n∧i= .int .i64 k∧Hid (row.length=n)∧Hid (∀ j,j<k→el row j=aptI)∧Hid (Blk wi (w.heap.size+1) (row.map (Value.int .i64)).toArray 3)∧Hid (Blk wi w.heap.size #[.int .i64 f,.slice a2 n1 cap2] 45)∧Hid (Below w.heap.size w wi)) (fun i _=>n-(intOf i).toNat)
 case atStart=>exact ⟨0,List.replicate n 0,Nat.zero_le _,rfl,(by show _=_;simp),fun j hj=>absurd hj (by omega),(by have:=made_zeroP (w.alloc (.cells #[.int .i64 f,.slice a2 n1 cap2] 45)) n 3;rw[World.size_alloc]at this;exact this),(Blk.made _ _ _).alloc _,((Below.refl _ _).alloc (Nat.le_refl _) _).alloc (by simp) _⟩
 case round=>
  obtain⟨k,row,hk,rfl,hrl,hel,hbr,hbs,hbi⟩:=hrel
  obtain⟨w3,hw3⟩:∃ w3,w3=wr:=⟨_,rfl⟩
  subst hw3;by_cases hkl:k<n
  ·have k0:(0:Int)≤(k:Int):=by omega
   have k1:(k:Int)<(n:Int):=by omega
   have e0:=jjba hbr.out (j:=k) (by rw[hrl.out];exact hkl);have f0:=hbr.out.fz k;have HB':=hidP (hbr.out.set k (.int .i64 aptI));rw[jjcc]at HB';have HI':=hidP (hbi.out.setCell (p:=⟨w.heap.size+1,k,none⟩) (by show w.heap.size≤w.heap.size+1;omega) (.int .i64 aptI));have HT':=hidP (hbs.out.setO ⟨w.heap.size+1,k,none⟩ (.int .i64 aptI) (by show w.heap.size≠w.heap.size+1;omega))
   have HE':Hid (∀ j,j<k+1→el (row.set k aptI) j=aptI):=fun j hj=>by
    rw[el_setN (by rw[hrl.out];exact hkl)];split
    ·rfl
    ·exact hel.out j (by omega)
   have HL':Hid ((row.set k aptI).length=n):=by show _=_;rw[List.length_set];exact hrl.out
   rw[aptI_eq]at HB' HI' HL' HT';have HE2:Hid (∀ j,j<k+1→el (row.set k 4611686018427387903) j=aptI):=HE';clear hbr hbi hel hbs HE';go_wp2;go_roundw
   case rel=>exact ⟨k+1,row.set k 4611686018427387903,by omega,by go_num,HL',HE2,HB',HT',HI'⟩
   case measure=>simp [intOf];omega
  ·have k1:¬ (k:Int)<(n:Int):=by omega
   have hrow:row=rowA (List.replicate n noneI):=jjc2 (by rw[hrl.out];simp[rowA]) fun j hj=>by
    rw[hel.out j (by rw[hrl.out]at hj;omega),el_rowA (by rw[hrl.out]at hj;simpa using hj),jjd0 (by rw[hrl.out]at hj;exact hj)];rfl
   subst hrow;have e0:=jjba hbr.out (j:=q) (by rw[hrl.out];exact hq);have f0:=hbr.out.fz q;have HB':=hidP (hbr.out.set q (.int .i64 (toA 0)));rw[jjcc,rowA_set]at HB';rw[show toA 0=0 from rfl]at HB';have HI':=hidP (hbi.out.setCell (p:=⟨w.heap.size+1,q,none⟩) (by show w.heap.size≤w.heap.size+1;omega) (.int .i64 0))
   have HT':=hidP (hbs.out.setO ⟨w.heap.size+1,q,none⟩ (.int .i64 0) (by show w.heap.size≠w.heap.size+1;omega));have s1:=HT'.out.cell 1 (v:= .slice a2 n1 cap2) rfl;clear hbr hbi hel hrl hbs;generalize (List.replicate n noneI).set q 0=row0 at *;generalize el (rowA (List.replicate n noneI)) q=x0 at *;go_wp2;clear e0 f0 s1
   go_loopw [28] (fun i wi=>∃ (j:Nat) (row:List Int),j≤n1∧i= .int .i64 j∧Hid (RowI l q j row)∧Hid (Blk wi (w.heap.size+1) ((rowA row).map (Value.int .i64)).toArray 3)∧Hid (Below w.heap.size w wi)) (fun i _=>n1-(intOf i).toNat)
   case atStart=>exact ⟨0,row0,Nat.zero_le _,rfl,HRI,HB',HI'⟩
   case round=>
    clear HRI HB' HI' HT';obtain⟨j,row,hj,rfl,hri,hbr,hbi⟩:=hrel
    obtain⟨w4,hw4⟩:∃ w4,w4=wr:=⟨_,rfl⟩
    subst hw4;have hrl:row.length=n:=HSL.out j row hri.out;by_cases hjl:j<n1
    ·have j0:(0:Int)≤(j:Int):=by omega
     have j1:(j:Int)<(n1:Int):=by omega
     obtain⟨b6,o6,rfl,hb6,p0c,p1c,p2c,p3c⟩:=HC2.out j hjl
     have p0c:=(hbi.out.cell (p:=⟨b6,o6+j*4,none⟩) hb6).trans p0c;have p1c:=(hbi.out.cell (p:=⟨b6,o6+j*4+1,none⟩) hb6).trans p1c;have p2c:=(hbi.out.cell (p:=⟨b6,o6+j*4+2,none⟩) hb6).trans p2c;have p3c:=(hbi.out.cell (p:=⟨b6,o6+j*4+3,none⟩) hb6).trans p3c;obtain⟨⟨t0,htl,ht0⟩,hw0,hw1⟩:=HTO.out j hjl
     have HS1:=hidP (HSK.out j row hri.out);have HS2:=hidP (fun he=>HSE.out j t0 row hri.out hjl he ht0 htl hw0);have hxb:=HBD.out j row hri.out t0 htl;rw[ht0]at p3c;obtain⟨pp,hpp⟩:∃ pp,el ar j=pp:=⟨_,rfl⟩
     rw[hpp]at p0c p1c p2c HS1 HS2 hw1 ht0;clear hpp;obtain⟨p0,p1,p2,p3⟩:=pp
     simp only at p0c p1c p2c HS1 HS2 hw1 ht0;subst ht0;have HLO:=hidP (toA_low hw1 hxb);obtain⟨x1,hx1⟩:∃ x1,el row t0=x1:=⟨_,rfl⟩
     have HX1:=hidP hx1;rw[hx1]at HS2 HLO;clear hx1 hxb hw0 hw1;have t1:(0:Int)≤(t0:Int):=by omega
     have t2:(t0:Int)<(n:Int):=by omega
     have s2:=hbr.out.lt;rcases Bool.eq_false_or_eq_true (empA (p0,p1,p2,(t0:Int)))with he | he
     ·have HRW:=hidP (HS2.out he)
      go_wp2_with (go_at_call 93;(with_reducible refine(jje0 _ _ _ _ _ _ he).mono ?_);rintro e w5 ⟨rfl,hb5⟩;obtain⟨s5,k5,hb5'⟩:=boxed hb5 (by simp);have HK5:=hidP k5;have HB5:=hidP hb5';clear hb5 hb5' k5);have HH5:=hidP (hbr.out.below HB5.out s2);have HI5:=hidP (hbi.out.trans (HB5.out.mono hbi.out.size));have rc:=jjba HH5.out (j:=t0) (by rw[rowA_len,hrl];exact htl);have rf5:=HH5.out.fz t0
      rw[el_rowA (by rw[hrl];exact htl),HX1.out]at rc;have HS5:HeldE1 w4.heap.size p0 p1 p2 (t0:Int) (w.heap.size+1) t0 (toA x1) w5.drew:=⟨HK5.out.cell 0 rfl,HK5.out.cell 1 rfl,HK5.out.cell 2 rfl,HK5.out.cell 3 rfl,rc⟩
      have HH6:=hidP (HH5.out.set t0 (.int .i64 (toA (lowV p2 x1))));rw[jjcc,rowA_set]at HH6;have HI6:=hidP (HI5.out.setCell (p:=⟨w.heap.size+1,t0,none⟩) (by show w.heap.size≤w.heap.size+1;omega) (.int .i64 (toA (lowV p2 x1))));refine jjaf (HeldE1 w4.heap.size p0 p1 p2 (t0:Int) (w.heap.size+1) t0 (toA x1)) 12 (by kernel_rfl) ?_
      refine jjaa (v:=?v0_1) aZ0 ?y0_1 HS5 ?r0_1
      case y0_1=>intro wx hx;obtain⟨h0,h1,h2,h3,h4⟩:=hx;go_simp;try (with_reducible rfl)
      simp only[Act.put,sA,sB,sC];refine jjaa (v:=?v1_2) aZ1 ?y1_2 HS5 ?r1_2
      case y1_2=>intro wx hx;obtain⟨h0,h1,h2,h3,h4⟩:=hx;go_simp;try (with_reducible rfl)
      simp only[Act.put,sA,sB,sC];refine jjaa (v:=?v2_3) aZ2 ?y2_3 HS5 ?r2_3
      case y2_3=>intro wx hx;obtain⟨h0,h1,h2,h3,h4⟩:=hx;go_simp;try (with_reducible rfl)
      simp only[Act.put,sA,sB,sC];refine jjaa (v:=?v3_4) aZ3 ?y3_4 HS5 ?r3_4
      case y3_4=>intro wx hx;obtain⟨h0,h1,h2,h3,h4⟩:=hx;go_simp;try (with_reducible rfl)
      simp only[Act.put,sA,sB,sC];refine jjaa (v:=?v4_5) aZ4 ?y4_5 HS5 ?r4_5
      case y4_5=>intro wx hx;obtain⟨h0,h1,h2,h3,h4⟩:=hx;go_simp;try (with_reducible rfl)
      simp only[Act.put,sA,sB,sC];refine jjaa (v:=?v5_6) aZ5 ?y5_6 HS5 ?r5_6
      case y5_6=>intro wx hx;obtain⟨h0,h1,h2,h3,h4⟩:=hx;go_simp;try (with_reducible rfl)
      simp only[Act.put,sA,sB,sC];refine jjaa (v:=?v6_7) aZ6 ?y6_7 HS5 ?r6_7
      case y6_7=>intro wx hx;obtain⟨h0,h1,h2,h3,h4⟩:=hx;go_simp;try (with_reducible rfl)
      simp only[Act.put,sA,sB,sC];refine jjaa (v:=?v7_8) aZ7 ?y7_8 HS5 ?r7_8
      case y7_8=>intro wx hx;obtain⟨h0,h1,h2,h3,h4⟩:=hx;go_simp;try (with_reducible rfl)
      simp only[Act.put,sA,sB,sC];refine jjaa (v:=?v8_9) aZ8 ?y8_9 HS5 ?r8_9
      case y8_9=>intro wx hx;obtain⟨h0,h1,h2,h3,h4⟩:=hx;go_simp;try (with_reducible rfl)
      simp only[Act.put,sA,sB,sC];refine jjaa (v:=?v9_10) aZ9 ?y9_10 HS5 ?r9_10
      case y9_10=>intro wx hx;obtain⟨h0,h1,h2,h3,h4⟩:=hx;go_simp;try (with_reducible rfl)
      simp only[Act.put,sA,sB,sC];refine jjaa (v:= .int .i64 (toA (lowV p2 x1))) aZ10 ?y10_12 HS5 ?r10_12
      case y10_12=>intro wx hx;obtain⟨h0,h1,h2,h3,h4⟩:=hx;go_simp;rw[HLO.out]
      simp only[Act.put,sA,sB,sC];refine jjaa (v:=?v11_11) aZ11 ?y11_11 HS5 ?r11_11
      case y11_11=>intro wx hx;obtain⟨h0,h1,h2,h3,h4⟩:=hx;go_simp;try (with_reducible rfl)
      simp only[Act.put,sA,sB,sC];refine jjab aZ12 (fun K hK=>?_)
      obtain⟨h0,h1,h2,h3,h4⟩:=HS5
      go_simp;refine hK _ _ (.inl rfl) (jjad (by kernel_rfl) (NoPanic.normal ?_))
      try simp only[Act.put,sA,sB,sC]
      clear h0 h1 h2 h3 h4 rf5 rc;go_wp2;go_roundw
      case rel=>exact ⟨j+1,row.set t0 (lowV p2 x1),by omega,by go_num,HRW,HH6.out.drew,HI6.out.drew⟩
      case measure=>simp [intOf];omega
     ·have HRW:=hidP (HS1.out he)
      go_wp2_with (go_at_call 93;(with_reducible refine(jje0 _ _ _ _ _ _ he).mono ?_);rintro e w5 ⟨rfl,hb5⟩;obtain⟨s5,k5,hb5'⟩:=boxed hb5 (by simp);have HB5:=hidP hb5';clear hb5 hb5' k5);go_roundw
      case rel=>exact ⟨j+1,row,by omega,by go_num,HRW,hbr.out.below HB5.out s2,hbi.out.trans (HB5.out.mono hbi.out.size)⟩
      case measure=>simp [intOf];omega
    ·have j1:¬ (j:Int)<(n1:Int):=by omega
     obtain rfl:n1=j:=by omega
     go_wp2;go_ret;exact⟨rfl,⟨row,hri.out,hbr.out⟩,hbi.out⟩
end Go.Proofs.YtppkiejhhmahcaaGreatDoor.Wt
