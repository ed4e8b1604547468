/- Facts, joined. -/
import Derived.Test.YtppkiejhhmahcaaGreatDoorSab
import Derived.Laws.MakeOwn
set_option linter.unusedSimpArgs false
set_option linter.unusedVariables false
namespace Go.Proofs.YtppkiejhhmahcaaGreatDoor.Pl
theorem pigeon :∀ (n:Nat) (l:List Nat),l.Nodup→(∀ x ∈ l,x<n)→l.length≤n:=by
  intro n;induction n with
  | zero=>
    intro l _ h;cases l with
    | nil=>simp
    | cons a l=>exact absurd (h a (by simp)) (Nat.not_lt_zero _)
  | succ n ih=>
    intro l hn h;have h1:=ih (l.erase n) (hn.erase n) (fun x hx=>by
      have h2:=h x (List.mem_of_mem_erase hx)
      have h3:x≠n:=fun e=>by subst e;exact hn.not_mem_erase hx
      omega)
    rw[List.length_erase]at h1;split at h1<;>omega
def lab (a:Int):List Int:=if a=0 then[] else[a]
inductive Way (l:List St)(q:Nat):List Int→List Int→Nat→Nat→Prop
 | nil:Way l q [] [] q 0
 | snoc {u v:List Int} {p c:Nat} (h:Way l q u v p c) {a:Ar} (ha:a ∈ (el l p).2) {t:Nat} (ht:a.2.2.2=(t:Int)):Way l q (u++lab a.1) (v++lab a.2.1) t (c+a.2.2.1.toNat)
theorem Way.trans {l:List St}{q p r c d:Nat}{u v u' v':List Int}(h:Way l q u v p c)(k:Way l p u' v' r d):Way l q (u++u') (v++v') r (c+d):=by
  induction k with
  | nil=>simpa using h
  | snoc k ha ht ih=>
    have:=Way.snoc ih ha ht;rwa [List.append_assoc,List.append_assoc,Nat.add_assoc]at this
theorem Way.inside {l:List St}{q p c:Nat}{u v:List Int}(h:Way l q u v p c)(hq:q<l.length)(hto:∀ q,q<l.length→∀ a ∈ (el l q).2,∃ t:Nat,a.2.2.2=(t:Int)∧t<l.length):p<l.length:=by
  induction h with
  | nil=>exact hq
  | snoc h ha ht ih=>
    obtain⟨t,e,ht'⟩:=hto _ ih _ ha
    rename_i t'
    have:t=t':=by omega
    omega
def Costs (m:Mc)(x y:List Int)(c:Nat):Prop:=0≤m.1∧∃ p d,Way m.2 m.1.toNat x y p d∧p<m.2.length∧(el m.2 p).1≠1000000001∧c=d+(el m.2 p).1.toNat
def LeastP (P:Nat→Prop)(c:Nat):Prop:=P c∧∀ d,P d→c≤d
theorem LeastP.one {P:Nat→Prop}{c d:Nat}(h:LeastP P c)(k:LeastP P d):c=d:=Nat.le_antisymm (h.2 d k.1) (k.2 c h.1)
def WghAns (P:Nat→Prop)(n e:Int):Prop:=((∀ c,¬ P c)∧n=1000000001∧e=0)∨∃ c:Nat,LeastP P c∧((c≤1000000000∧n=(c:Int)∧e=0)∨(1000000000<c∧n=0∧e=4))
theorem WghAns.one {P:Nat→Prop}{n e n' e':Int}(h:WghAns P n e)(k:WghAns P n' e'):n=n'∧e=e':=by
 rcases h with⟨h,rfl,rfl⟩ | ⟨c,hc,h⟩
 ·rcases k with⟨k,rfl,rfl⟩ | ⟨d,hd,_⟩
  ·exact ⟨rfl,rfl⟩
  ·exact absurd hd.1 (h d)
 ·rcases k with⟨k,_⟩ | ⟨d,hd,k⟩
  ·exact absurd hc.1 (k c)
  ·have:=hc.one hd
   subst this;rcases h with⟨h1,rfl,rfl⟩ | ⟨h1,rfl,rfl⟩<;>rcases k with⟨k1,rfl,rfl⟩ | ⟨k1,rfl,rfl⟩<;>first | exact⟨rfl,rfl⟩ | omega
section
variable {E:Nat→Nat→Nat→Prop} {s:Nat}
inductive Run (E:Nat→Nat→Nat→Prop)(s:Nat):Nat→Nat→Nat→Prop
 | nil:Run E s 0 s 0
 | step {n k c w j:Nat} (h:Run E s n k c) (e:E k w j):Run E s (n+1) j (c+w)
theorem Run.cost {W n k c:Nat}(h:Run E s n k c)(hW:∀ k w j,E k w j→w≤W):c≤n*W:=by
  induction h with
  | nil=>simp
  | step h e ih=>
    have:=hW _ _ _ e;rw[Nat.add_mul];omega
theorem Run.trans {n k c m j d:Nat}(h:Run E s n k c)(g:Run E k m j d):Run E s (n+m) j (c+d):=by
 induction g with
 | nil=>exact h
 | step g e ih=>rw [← Nat.add_assoc,← Nat.add_assoc];exact ih.step e
theorem Run.places {n k c:Nat}(h:Run E s n k c):∃ f:Nat→Nat,f 0=s∧f n=k∧(∀ i,i≤n→∃ d,Run E s i (f i) d∧∃ d',Run E (f i) (n-i) k d'):=by
  induction h with
  | nil=>exact ⟨fun _=>s,rfl,rfl,fun i hi=>⟨0,by rw[show i=0 by omega];exact .nil,0,by rw[show i=0 by omega];exact .nil⟩⟩
  | step h e ih=>
    rename_i n k c w j
    obtain⟨f,f0,fn,hf⟩:=ih
    refine⟨fun i=>if i≤n then f i else j,by simp[f0],if_neg (by omega),fun i hi=>?_⟩
    by_cases g:i≤n
    · simp only[g,if_true]
      obtain⟨d,h1,d',h2⟩:=hf i g
      refine⟨d,h1,d'+w,?_⟩
      have:=h2.step e;rwa [show n-i+1=n+1-i by omega]at this
    · obtain rfl:i=n+1:=by omega
      simp only[g,if_false];exact⟨c+w,h.step e,0,by rw[Nat.sub_self];exact .nil⟩
theorem twice {f:Nat→Nat}{n N:Nat}(hf:∀ i,i≤n→f i<N)(hn:N≤n):∃ i j,i<j∧j≤n∧f i=f j:=by
 by_cases h:∃ i j,i<j∧j≤n∧f i=f j
 ·exact h
 ·exfalso
  have hnd:((List.range (n+1)).map f).Nodup:=by
   unfold List.Nodup;rw[List.pairwise_map];refine List.Pairwise.imp_of_mem ?_ (List.pairwise_lt_range (n:=n+1))
   intro a b ha hb hab e;rw[List.mem_range]at hb;exact h ⟨a,b,hab,by omega,e⟩
  have:=pigeon N _ hnd (fun x hx=>by
   rw[List.mem_map]at hx
   obtain⟨i,hi,rfl⟩:=hx
   rw[List.mem_range]at hi
   exact hf i (by omega))
  simp at this;omega
theorem Run.short {N:Nat}(hs:s<N)(hE:∀ k w j,E k w j→j<N):∀ {n k c:Nat},Run E s n k c→∃ m d,m<N∧Run E s m k d:=by
  have key:∀ b n k c,n<b→Run E s n k c→∃ m d,m<N∧Run E s m k d:=by
    intro b;induction b with
    | zero=>intro n k c hn;omega
    | succ b ih=>
      intro n k c hn h;by_cases g:n<N
      · exact⟨n,c,g,h⟩
      · obtain⟨f,f0,fn,hf⟩:=h.places
        have hin:∀ i,i≤n→f i<N:=fun i hi=>by
          obtain⟨d,h1,_⟩:=hf i hi
          generalize f i=y at h1;cases h1 with
          | nil=>exact hs
          | step _ e=>exact hE _ _ _ e
        obtain⟨i,j,hij,hj,e⟩:=twice hin (by omega)
        obtain⟨d,h1,_⟩:=hf i (by omega)
        obtain⟨_,_,d',h2⟩:=hf j hj
        rw[← e]at h2;exact ih _ _ _ (by omega) (h1.trans h2)
  exact fun {n k c} h=>key (n+1) n k c (by omega) h
end
theorem jjec {α:Type}[Inhabited α]{l k:List α}{i:Nat}(h:i<l.length):el (l++k) i=el l i:=by
 simp[el,List.getElem?_append_left h,h]
theorem el_appendE {α:Type}[Inhabited α]{l:List α}{x:α}:el (l++[x]) l.length=x:=by
 simp[el]
theorem el_in {l:List St}{p:Nat}{a:Ar}(h:a ∈ (el l p).2):p<l.length:=by
 rcases Nat.lt_or_ge p l.length with g | g
 ·exact g
 ·have:el l p=default:=by simp[el,g]
  rw[this]at h;exact absurd h (by simp[default])
def ToIn (l:List St):Prop:=∀ q,q<l.length→∀ a ∈ (el l q).2,∃ t:Nat,a.2.2.2=(t:Int)∧t<l.length
def empB (l:List St):Bool:=l.any fun s=>s.2.any fun a=>decide (a.1=0)&&decide (a.2.1=0)
def fitE (m:Mc):Int:=if sizeB m=true then 0 else 5
def fitM (m:Mc):Mc:=if sizeB m=true then m else(0,[])
theorem jjed (l:List St)(k:Nat):arcN (l.take k)≤arcN l:=by
 conv=>rhs;rw[← List.take_append_drop k l,jjbd]
 omega
theorem small_ok {m:Mc}(h1:m.2.length≤100000)(h2:arcN m.2≤100000):okM m:=⟨by omega,fun j hj=>by
 have h3:=jjbf hj
 have h4:=jjed m.2 (j+1)
 omega⟩
theorem jjag {m:Mc}(h:faultM m=0):(-1≤m.1∧m.1≤(m.2.length:Int)-1)∧∀ s ∈ m.2,stB m.2.length s=true:=by
 have h1:=(jjax h).2;simp only[rangeB,Bool.and_eq_true,inB,decide_eq_true_eq,List.all_eq_true]at h1;exact h1
theorem stB_fin {n:Nat}{s:St}(h:stB n s=true):finB s.1=true:=by
 simp only[stB,Bool.and_eq_true]at h;exact h.1
theorem jjdw {m:Mc}(h:faultM m=0):okM m:=by
 have h1:=jjae (z:=m.1) (l:=m.2) h;exact small_ok (by omega) (by omega)
def S (f:Nat→Nat):Nat→Nat
 | 0=>0
 | n+1=>S f n+f n
theorem arcN_each {l:List St}{k:Nat}(h:∀ s ∈ l,s.2.length≤k):arcN l≤l.length*k:=by
  induction l with
  | nil=>simp [arcN]
  | cons s l ih=>
    have h1:=h s (by simp);have h2:=ih (fun s hs=>h s (by simp[hs]));simp only[arcN,List.length_cons,Nat.add_mul];omega
inductive Stc (a:Mc):List Int→List Int→Nat→Prop
 | nil:Stc a [] [] 0
 | snoc {x y x' y':List Int} {c d:Nat} (h:Stc a x y c) (k:Costs a x' y' d):Stc a (x++x') (y++y') (c+d)
def wrdE (l:List Int):Int:=if 12<l.length then 1 else if l.all (fun b=>inB b 1 1000)=true then 0 else 2
theorem wrd_long {l:List Int}(h:12<l.length):wrdE l=1:=by unfold wrdE;rw[if_pos h]
theorem wrd_ok {l:List Int}(h:¬ 12<l.length)(ha:∀ i,i<l.length→inB (el l i) 1 1000=true):wrdE l=0:=by
 unfold wrdE;rw[if_neg h,if_pos];rw[List.all_eq_true];intro b hb;obtain⟨j,hj,rfl⟩:=jja1 hb
 exact ha j hj
theorem jjdx {l:List Int}(h:wrdE l=0):l.length≤12∧∀ i,i<l.length→1≤el l i∧el l i≤1000:=by
 unfold wrdE at h;by_cases g:12<l.length
 ·rw [if_pos g]at h;cases h
 ·rw [if_neg g]at h
  by_cases k:l.all (fun b=>inB b 1 1000)=true
  ·refine ⟨by omega,fun i hi=>?_⟩
   rw[List.all_eq_true]at k
   have:=k (el l i) (jjac hi);simpa [inB] using this
  ·rw [if_neg k]at h;cases h
def atW (l:List Int)(i:Nat):Int:=if i<l.length then el l i else 0
def croE (x y:List Int):Int:=if wrdE x≠0 then wrdE x else wrdE y
def fitN (l:List Int)(i:Nat)(b:Int):Option Nat:=if b=0 then some i else if i<l.length∧el l i=b then some (i+1) else none
theorem jjee {l:List Int}{i j:Nat}{b:Int}(h:fitN l i b=some j)(hi:i≤l.length):j≤l.length:=by
 unfold fitN at h;split at h
 ·simp at h;omega
 ·split at h
  ·simp at h;omega
  ·simp at h
theorem take_snocW {l:List Int}{i:Nat}(h:i<l.length):l.take (i+1)=l.take i++[el l i]:=by
 rw[List.take_add_one,List.getElem?_eq_getElem h,jjaj h];rfl
theorem jjdy {l:List Int}{i j:Nat}{b:Int}(h:fitN l i b=some j):l.take j=l.take i++lab b:=by
 unfold fitN at h;unfold lab;split at h
 ·rename_i hb
  simp at h;rw[if_pos hb,h,List.append_nil]
 ·rename_i hb
  rw[if_neg hb];split at h
  ·rename_i hi
   simp at h;rw[← h,take_snocW hi.1,hi.2]
  ·simp at h
theorem jjdz {l u:List Int}{j:Nat}{b:Int}(hj:j≤l.length)(h:u++lab b=l.take j):∃ i,i≤l.length∧u=l.take i∧fitN l i b=some j:=by
 unfold lab at h;unfold fitN;by_cases hb:b=0
 ·rw [if_pos hb,List.append_nil]at h
  exact⟨j,hj,h,by rw[if_pos hb]⟩
 ·rw [if_neg hb]at h
  rcases j with _ | j
  ·simp at h
  ·rw [take_snocW (by omega)]at h
   have h1:=List.append_inj' h rfl;have h2:b=el l j:=by simpa using h1.2
   exact⟨j,by omega,h1.1,by rw[if_neg hb,if_pos ⟨by omega,h2.symm⟩]⟩
def idx (X Y q i j:Nat):Nat:=(q*(X+1)+i)*(Y+1)+j
theorem idx_j {X Y q i j:Nat}(hj:j≤Y):idx X Y q i j % (Y+1)=j:=by
 unfold idx;rw[Nat.mul_comm,Nat.mul_add_mod];exact Nat.mod_eq_of_lt (by omega)
theorem idx_d {X Y q i j:Nat}(hj:j≤Y):idx X Y q i j / (Y+1)=q*(X+1)+i:=by
 unfold idx;rw[Nat.mul_comm,Nat.mul_add_div (by omega),Nat.div_eq_of_lt (by omega),Nat.add_zero]
theorem idx_i {X Y q i j:Nat}(hi:i≤X)(hj:j≤Y):idx X Y q i j / (Y+1) % (X+1)=i:=by
 rw[idx_d hj,Nat.mul_comm,Nat.mul_add_mod];exact Nat.mod_eq_of_lt (by omega)
theorem idx_q {X Y q i j:Nat}(hi:i≤X)(hj:j≤Y):idx X Y q i j / (Y+1) / (X+1)=q:=by
 rw[idx_d hj,Nat.mul_comm,Nat.mul_add_div (by omega),Nat.div_eq_of_lt (by omega),Nat.add_zero]
theorem idx_one {X Y q i j q' i' j':Nat}(hi:i≤X)(hj:j≤Y)(hi':i'≤X)(hj':j'≤Y)(h:idx X Y q i j=idx X Y q' i' j'):q=q'∧i=i'∧j=j':=by
 refine⟨?_,?_,?_⟩
 ·have:=idx_q (q:=q) hi hj;rw[h,idx_q hi' hj']at this;exact this.symm
 ·have:=idx_i (q:=q) hi hj;rw[h,idx_i hi' hj']at this;exact this.symm
 ·have:=idx_j (X:=X) (q:=q) (i:=i) hj;rw[h,idx_j hj']at this;exact this.symm
theorem idx_lt {X Y q i j n:Nat}(hq:q<n)(hi:i≤X)(hj:j≤Y):idx X Y q i j<n*(X+1)*(Y+1):=by
 unfold idx;have h1:q*(X+1)+i+1≤n*(X+1):=by
  have:(q+1)*(X+1)≤n*(X+1):=Nat.mul_le_mul_right _ (by omega);rw[Nat.add_mul]at this;omega
 have h2:(q*(X+1)+i+1)*(Y+1)≤n*(X+1)*(Y+1):=Nat.mul_le_mul_right _ h1;rw[Nat.add_mul]at h2;omega
def fitF (free:Bool)(y:List Int)(j:Nat)(b:Int):Option Nat:=if free=true then some j else fitN y j b
theorem fitF_le {free:Bool}{l:List Int}{i j:Nat}{b:Int}(h:fitF free l i b=some j)(hi:i≤l.length):j≤l.length:=by
 unfold fitF at h;split at h
 ·simp at h;omega
 ·exact jjee h hi
def Edge (l:List St)(x y:List Int)(free:Bool)(k w k':Nat):Prop:=
 ∃ q i j a t i' j',q<l.length∧i≤x.length∧j≤y.length∧a ∈ (el l q).2∧a.2.2.2=((t:Nat):Int)∧fitN x i a.1=some i'∧fitF free y j a.2.1=some j'∧k=idx x.length y.length q i j∧w=a.2.2.1.toNat∧k'=idx x.length y.length t i' j'
theorem run_way {l:List St}{x y:List Int}{z n k c:Nat}(hz:z<l.length)(hto:∀ q,q<l.length→∀ a ∈ (el l q).2,∃ t:Nat,a.2.2.2=(t:Int)∧t<l.length)(h:Run (Edge l x y false) (idx x.length y.length z 0 0) n k c):
    ∃ q i j,q<l.length∧i≤x.length∧j≤y.length∧k=idx x.length y.length q i j∧Way l z (x.take i) (y.take j) q c:=by
  induction h with
  | nil=>exact ⟨z,0,0,hz,by omega,by omega,rfl,by simpa using Way.nil⟩
  | step h e ih=>
    obtain⟨q,i,j,hq,hi,hj,rfl,hw⟩:=ih
    obtain⟨q',i',j',a,t,i2,j2,hq',hi',hj',ha,ht,f1,f2,ek,rfl,rfl⟩:=e
    obtain⟨rfl,rfl,rfl⟩:=idx_one hi hj hi' hj' ek
    obtain⟨t',e1,e2⟩:=hto _ hq a ha
    have:t=t':=by omega
    subst this;have f2':fitN y j a.2.1=some j2:=by simpa [fitF] using f2
    refine⟨t,i2,j2,e2,jjee f1 hi,jjee f2' hj,rfl,?_⟩
    rw[jjdy f1,jjdy f2'];exact hw.snoc ha ht
theorem way_run {l:List St}{x y:List Int}{z q c:Nat}{u v:List Int}(hz:z<l.length)(hto:∀ q,q<l.length→∀ a ∈ (el l q).2,∃ t:Nat,a.2.2.2=(t:Int)∧t<l.length)(h:Way l z u v q c):
    ∀ i j,i≤x.length→j≤y.length→u=x.take i→v=y.take j→∃ n,Run (Edge l x y false) (idx x.length y.length z 0 0) n (idx x.length y.length q i j) c:=by
  induction h with
  | nil=>
    intro i j hi hj hu hv;have h1:i=0:=by
      have:=congrArg List.length hu;simp at this;omega
    have h2:j=0:=by
      have:=congrArg List.length hv;simp at this;omega
    subst h1;subst h2;exact⟨0,.nil⟩
  | snoc h ha ht ih=>
    intro i j hi hj hu hv;obtain⟨i0,hi0,hu0,f1⟩:=jjdz hi hu
    obtain⟨j0,hj0,hv0,f2⟩:=jjdz hj hv
    obtain⟨n,hn⟩:=ih i0 j0 hi0 hj0 hu0 hv0
    exact⟨n+1,hn.step ⟨_,i0,j0,_,_,i,j,h.inside hz hto,hi0,hj0,ha,ht,f1,by simpa [fitF] using f2,rfl,rfl,rfl⟩⟩
theorem ends_way {l:List St}{x y:List Int}{z q c:Nat}(hz:z<l.length)(hto:∀ q,q<l.length→∀ a ∈ (el l q).2,∃ t:Nat,a.2.2.2=(t:Int)∧t<l.length):
  (∃ n,Run (Edge l x y false) (idx x.length y.length z 0 0) n (idx x.length y.length q x.length y.length) c)↔Way l z x y q c:=by
 constructor
 ·rintro ⟨n,h⟩
  obtain⟨q',i,j,hq,hi,hj,e,hw⟩:=run_way hz hto h
  obtain⟨rfl,rfl,rfl⟩:=idx_one (Nat.le_refl _) (Nat.le_refl _) hi hj e
  simpa using hw
 ·intro h
  exact way_run hz hto h x.length y.length (Nat.le_refl _) (Nat.le_refl _) (by simp) (by simp)
def noneI :Int:=1152921504606846976
theorem el_setT {l:List Int}{q j:Nat}(hq:q<l.length)(x:Int):el (l.set q x) j=if j=q then x else el l j:=by
 by_cases h:j=q
 ·subst h;rw[if_pos rfl];simp[el,hq]
 ·rw [if_neg h];simp[el,List.getElem?_set,Ne.symm h]
structure CostT (l:List St)(x y:List Int)(free:Bool)(z:Int)(cs:List Int):Prop where
 len:cs.length=l.length*(x.length+1)*(y.length+1)
 rng:∀ k,k<cs.length→0≤el cs k∧el cs k≤noneI
 beg:0≤z→el cs (idx x.length y.length z.toNat 0 0)=0
 run:∀ k,k<cs.length→el cs k<noneI→0≤z∧∃ n,Run (Edge l x y free) (idx x.length y.length z.toNat 0 0) n k (el cs k).toNat
theorem jjd0 {n k:Nat}{c:Int}(h:k<n):el (List.replicate n c) k=c:=by simp[el,h]
def CstIs (P:Nat→Prop)(n:Int):Prop:=(n=1000000001∧∀ c,¬ P c)∨∃ c:Nat,LeastP P c∧c≤100000000∧n=(c:Int)
theorem CstIs.nonneg {P:Nat→Prop}{n:Int}(h:CstIs P n):0≤n:=by
 rcases h with⟨rfl,_⟩ | ⟨c,_,_,rfl⟩<;>omega
theorem cst_of {P:Nat→Prop}{n e:Int}(h:WghAns P n e)(hb:∀ c,P c→∃ d,d≤100000000∧P d):e=0∧CstIs P n:=by
 rcases h with⟨h,rfl,rfl⟩ | ⟨c,hc,h⟩
 ·exact ⟨rfl,.inl ⟨rfl,h⟩⟩
 ·obtain ⟨d,hd,hp⟩:=hb c hc.1
  have:=hc.2 d hp;rcases h with⟨h1,rfl,rfl⟩ | ⟨h1,rfl,rfl⟩
  ·exact ⟨rfl,.inr ⟨c,hc,by omega,rfl⟩⟩
  ·omega
def CheapL (l:List St):Prop:=∀ s ∈ l,(s.1≠1000000001→s.1≤8000)∧∀ a ∈ s.2,a.2.2.1≤8000
theorem right_ToIn {m:Mc}(h:faultM m=0):ToIn m.2:=fun q hq a ha=>by
 have h1:=(jjag h).2 _ (jjac hq);simp only[stB,Bool.and_eq_true,List.all_eq_true]at h1;have h2:=h1.2 _ ha;simp only[arcB,inB,Bool.and_eq_true,decide_eq_true_eq]at h2;exact⟨a.2.2.2.toNat,by omega,by omega⟩
theorem edge_small {l:List St}{x y:List Int}{fr:Bool}(hto:ToIn l)(hc:CheapL l)(hx:x.length≤12)(hy:y.length≤12)(hn:l.length≤60):
  l.length*(x.length+1)*(y.length+1)≤10140∧∀ k w j,Edge l x y fr k w j→j<l.length*(x.length+1)*(y.length+1)∧w≤8000:=by
 have h1:l.length*(x.length+1)≤60*13:=Nat.mul_le_mul hn (by omega);have h2:l.length*(x.length+1)*(y.length+1)≤60*13*13:=Nat.mul_le_mul h1 (by omega);refine⟨by omega,?_⟩
 rintro k w j ⟨q,i,j,a,t,i',j',hq,hi,hj,ha,ht,f1,f2,rfl,rfl,rfl⟩
 obtain⟨t',e1,e2⟩:=hto q hq a ha
 have:t=t':=by omega
 subst this;have h3:=(hc _ (jjac hq)).2 a ha;exact⟨idx_lt e2 (jjee f1 hi) (fitF_le f2 hj),by omega⟩
theorem costs_bound {m:Mc}{x y:List Int}(hr:faultM m=0)(hc:CheapL m.2)(hx:x.length≤12)(hy:y.length≤12)(c:Nat)(h:Costs m x y c):∃ d,d≤100000000∧Costs m x y d:=by
 obtain⟨hz,p,d,hw,hp,hf,rfl⟩:=h
 have h60:=(jjae (z:=m.1) (l:=m.2) hr).1;obtain⟨⟨hz1,hz2⟩,_⟩:=jjag hr
 have hto:=right_ToIn hr;have hzl:m.1.toNat<m.2.length:=by omega
 obtain⟨hN,hE⟩:=edge_small (fr:=false) hto hc hx hy h60
 obtain⟨n,hn⟩:=(ends_way hzl hto).2 hw
 obtain⟨n',d',hn',hd'⟩:=hn.short (idx_lt hzl (by omega) (by omega)) (fun k w j e=>(hE k w j e).1)
 have h1:=hd'.cost (W:=8000) (fun k w j e=>(hE k w j e).2);have h2:n'*8000≤10140*8000:=Nat.mul_le_mul_right _ (by omega);have h3:=(hc _ (jjac hp)).1 hf;exact⟨d'+(el m.2 p).1.toNat,by omega,hz,p,d',(ends_way hzl hto).1 ⟨n',hd'⟩,hp,hf,rfl⟩
def wdL (l:List Int)(k:Nat):List Int:=(l.take k).map (fun n=>1+pkR n 2)
theorem wdL_len (l:List Int)(k:Nat):(wdL l k).length≤k:=by simp[wdL];omega
theorem wrd_12 {l:List Int}(hl:l.length≤12)(h:∀ n ∈ l,1≤n∧n≤1000):wrdE l=0:=wrd_ok (by omega) fun i hi=>by
 have:=h _ (jjac hi);simp[inB];omega
theorem wdL_mem {l:List Int}{k:Nat}{n:Int}(h:n ∈ wdL l k):n=1∨n=2:=by
 unfold wdL at h;rw[List.mem_map]at h;obtain⟨a,_,rfl⟩:=h
 have:=jjc0 a 2 (by omega);omega
theorem wdL_wrd {l:List Int}{k:Nat}(hk:k≤12):wrdE (wdL l k)=0:=wrd_12 (by have:=wdL_len l k;omega) fun n hn=>by rcases wdL_mem hn with rfl | rfl<;>omega
theorem made_cheap (r:Int × List (Int × Bool × List Ar))(states:Nat)(full:Bool):CheapL (madeM r states full).2:=fun s hs=>by
 simp only[madeM,statesM,List.mem_map]at hs;obtain⟨q,_,rfl⟩:=hs
 split
 ·exact ⟨fun _=>by simp,fun a ha=>absurd ha (by simp)⟩
 ·refine ⟨fun h=>?_,fun a ha=>?_⟩
  ·unfold stM at h ⊢
   simp only at h ⊢;split
   ·have:=jjc0 (el r.2 q).1 10 (by omega);omega
   ·rename_i g;rw[if_neg g]at h;exact absurd rfl h
  ·simp only[stM,List.mem_map]at ha
   obtain⟨e,_,rfl⟩:=ha
   unfold arM
   have:=jjc0 e.2.2.1 10 (by omega);simp only;omega
def wghE2 (m:Mc)(x y:List Int):Int:=if faultM m≠0 then faultM m else croE x y
def WgR (P:Nat→Prop)(r n ec:Int):Prop:=if r=0 then WghAns P n ec else n=0∧ec=r
end Pl
namespace Wt
open ChangeShapes WideShapes ChangeAt RowKit Pl
def encI1 (x:Int):List Value:=[.int .i64 x]
theorem jjbg (x:Int):(encI1 x).length=1:=rfl
theorem jjc6 (x:Int):∀ u ∈ encI1 x,u.oneCell'=true:=by
 intro u hu;simp[encI1]at hu;subst hu;rfl
def Nums (w:World)(v:Value)(ks:List Int):Prop:=Row 1 encI1 w v ks
theorem Nums.later {w w':World}{v:Value}{ks:List Int}(h:Nums w v ks){B:Nat}(hb:Below B w w')(hB:w.heap.size≤B):Nums w' v ks:=Row.later h hb hB
theorem Nums.get {w:World}{v:Value}{bs:List Int}(h:Nums w v bs):∃ a cap,v= .slice a bs.length cap∧∀ j,j<bs.length→∃ b off,a=some ⟨b,off,none⟩∧b<w.heap.size∧w.cell? ⟨b,off+j,none⟩=some (.int .i64 (el bs j)):=by
 by_cases hz:0<bs.length
 ·obtain ⟨b,off,cap,hv,hb,hc⟩:=Row.plain h (fun x=>by simp[encI1]) hz
  refine⟨_,cap,hv,fun j hj=>⟨b,off,rfl,hb,?_⟩⟩
  have:=hc j hj 0 _ rfl;rwa [Nat.mul_one,Nat.add_zero]at this
 ·obtain ⟨a,cap,hv⟩:=Row.sl h
  exact⟨a,cap,hv,fun j hj=>by omega⟩
theorem infoIntU :(Tryz.prog.info? 3).map (fun i=>(i.zero,i.size,i.bytes))=some (some (.int .i64 0),1,8):=by kernel_rfl
theorem made_nums (n:Nat):madeCells (Value.cells (.int .i64 0)) (n*1)=((List.replicate n (0:Int)).map (Value.int .i64)).toArray:=by
 have hz:Value.cells (.int .i64 0)= #[.int .i64 0]:=rfl;apply Array.ext_getElem?
 intro t;simp only[madeCells,hz,Array.getElem?_map,List.map_replicate];by_cases ht:t<n
 ·simp [ht,Nat.mod_one]
 ·simp [ht]
theorem jjdd (n:Nat)(hn:n≤1000)(W:World):(Instr.makeSlice 36 (.int .i64 (n:Int)) (.int .i64 (n:Int))).run Tryz.prog W= .ok (.slice (some ⟨W.heap.size,0,none⟩) n n) (W.alloc (.cells ((List.replicate n (0:Int)).map (Value.int .i64)).toArray 3)):=by
 obtain⟨i1,hi1,hy0,hy1,hy2⟩:=info_parts infoIntU
 have h:=run_make (P:=Tryz.prog) W 36 3 i1 _ Tryz.underlying36 hi1 hy0 .i64 .i64 n n (by omega) (by omega) (by rw[hy2];omega) (by omega);rw[hy1,Int.toNat_natCast,made_nums]at h;exact h
theorem jjef {w:World}{g cap:Nat}{ws:List Int}{t:TypeId}(h:Blk w g (ws.map (Value.int .i64)).toArray t):Nums w (.slice (some ⟨g,0,none⟩) ws.length cap) ws:=by
  refine .inr ⟨⟨g,0,none⟩,cap,rfl,fun j hj i u hu=>?_⟩
  cases i with
  | zero=>
    rw[Addr.add_lit,Nat.zero_add,Nat.mul_one,Nat.add_zero];refine h.cell _ ?_
    simp[encI1]at hu;subst hu;simp[hj,el]
  | succ i=>simp [encI1]at hu
theorem jjba {w:World}{g:Nat}{ws:List Int}{t:TypeId}(h:Blk w g (ws.map (Value.int .i64)).toArray t){j:Nat}(hj:j<ws.length):w.cell? ⟨g,j,none⟩=some (.int .i64 (el ws j)):=by
 refine h.cell _ ?_
 simp[hj,el]
theorem jjcc {ws:List Int}{q:Nat}{x:Int}:(ws.map (Value.int .i64)).toArray.setIfInBounds q (.int .i64 x)=((ws.set q x).map (Value.int .i64)).toArray:=by simp[List.map_set]
theorem el_setN {l:List Int}{q j:Nat}(hq:q<l.length)(x:Int):el (l.set q x) j=if j=q then x else el l j:=by
 by_cases h:j=q
 ·subst h;rw[if_pos rfl,jjaj (by simpa using hq)];simp
 ·rw [if_neg h];simp[el,List.getElem?_set_ne (Ne.symm h)]
theorem ownMono {w:World}{base base':Nat}{e:TypeId}{s:Nat}{v:Value}{n:Nat}{xs:List Value}(h:w.ownsRow base e s v n xs)(hb:base'≤base):w.ownsRow base' e s v n xs:=by
 refine⟨h.1,?_⟩
 rcases h.2 with h2 | ⟨g,cap,cur,hv,hg,h3⟩
 ·exact .inl h2
 ·exact .inr ⟨g,cap,cur,hv,Nat.le_trans hb hg,h3⟩
theorem grownBelow {w w':World}(hb:Below w.heap.size w w'):w.grownBy w' none:=⟨hb.os,hb.tape,hb.output,hb.size,fun k hk _=>hb.block k hk⟩
theorem ownBelow {w w':World}{base:Nat}{e:TypeId}{s:Nat}{v:Value}{n:Nat}{xs:List Value}(h:w.ownsRow base e s v n xs)(hb:Below w.heap.size w w'):w'.ownsRow base e s v n xs:=
 h.kept (grownBelow hb) (by rcases v.ownBlock with _ | _<;>simp)
theorem oneRow {α:Type}[Inhabited α]{k:Nat}{enc:α→List Value}(w:World)(p:α)(hk:(enc p).length=k)(t:TypeId):Row k enc (w.alloc (.cells (enc p).toArray t)) (.slice (some ⟨w.heap.size,0,none⟩) 1 1) [p]:=by
 refine .inr ⟨⟨w.heap.size,0,none⟩,1,rfl,fun j hj i u hu=>?_⟩
 have hj0:j=0:=by simp at hj;exact hj
 subst hj0;rw[Addr.add_lit];refine(Blk.made w _ _).cell _ ?_
 rw[Nat.zero_mul,Nat.zero_add,Nat.zero_add];rw[jjbj]at hu;simpa using hu
theorem snocFacts {α:Type}{k:Nat}{enc:α→List Value}{w w':World}{base:Nat}{e:TypeId}{vo v:Value}{l:List α}{p:α}{ob:Obj}(ho:w.ownsRow base e k vo l.length (l.flatMap enc))(hs:base≤w.heap.size)(h:w'.ownsRow base e k v (l.length+[p].length) (l.flatMap enc++[p].flatMap enc))(hg:(w.alloc ob).grownBy w' vo.ownBlock):
  Hid (w'.ownsRow base e k v (l++[p]).length ((l++[p]).flatMap enc))∧Hid (Below base w w')∧Hid (base≤w'.heap.size):=by
 have hb:Below base w w':=((Below.refl _ _).alloc hs ob).grown hg (by simp;omega) (jjcv ho);exact⟨by show World.ownsRow _ _ _ _ _ _ _;rw[List.length_append,List.flatMap_append];exact h,hb,Nat.le_trans hs hb.size⟩
theorem wpListAppendRun {P:Program}{ops:Array Oper}{Q:Exit→Act→World→Prop}{rest:List Oper}{o:Oper}{a:Act}{w w':World}{v1 v2 v3:Value}(hgd:o.guard=none)(x y:Operand)(t:TypeId)(ho:o.op= .call {callee:= .builtin .append,args:=#[x,y],argTypes:=#[t,t]})(hx:a.eval x=v1)(hy:a.eval y=v2)
  (hr:(Builtin.append_ #[t,t] o.type #[v1,v2]).run P w= .ok v3 w') (h:wpList P ops Q rest (a.put o.dst v3) w'):wpList P ops Q (o::rest) a w:=
 wpList_plain hgd fun _ hK=>jjaw x y t ho hx hy hr (hK _ _ h)
theorem boxedTwo {w w1:World}{c0 c1:Array Value}{t0 t1:TypeId}{n:Nat}(hb:Below n ((w.alloc (.cells c0 t0)).alloc (.cells c1 t1)) w1)(hn:n=w.heap.size+2):w.heap.size+2≤w1.heap.size∧Blk w1 w.heap.size c0 t0∧Blk w1 (w.heap.size+1) c1 t1∧Below w.heap.size w w1:=by
 subst hn;have h:=hb.size;simp only[World.size_alloc]at h;have k1:=Blk.made (w.alloc (.cells c0 t0)) c1 t1;simp only[World.size_alloc]at k1;exact⟨h,((Blk.made w c0 t0).alloc _).below hb (by omega),k1.below hb (by omega),(((Below.refl _ _).alloc (Nat.le_refl _) _).alloc (by simp) _).trans (hb.mono (by omega))⟩
theorem OwnSts.monoB {w:World}{base base':Nat}{v:Value}{l:List St}(h:OwnSts w base v l)(hb:base'≤base):OwnSts w base' v l:=by
 obtain⟨vs,h1,h2,h3⟩:=h
 exact⟨vs,ownMono h1 hb,h2,fun j hj=>⟨(h3 j hj).1,ownMono (h3 j hj).2 hb⟩⟩
def Near (w:World)(r:Option Nat)(v:Value):Prop:=v.ownBlock=r∨∃ b,v.ownBlock=some b∧w.heap.size≤b
theorem Near.grown {w W W':World}{r:Option Nat}{v:Value}(hn:Near w r v)(h:w.grownBy W r)(hg:W.grownBy W' v.ownBlock):w.grownBy W' r:=by
 refine⟨hg.os.trans h.os,hg.tape.trans h.tape,hg.output.trans h.output,Nat.le_trans h.size hg.size,fun k hk hne=>?_⟩
 refine(hg.block k (Nat.lt_of_lt_of_le hk h.size) ?_).trans (h.block k hk hne)
 rcases hn with e | ⟨b,e,hb⟩
 ·rw [e];exact hne
 ·rw [e];intro e2;simp at e2;omega
theorem Near.next {w W:World}{r:Option Nat}{v v':Value}(hn:Near w r v)(h:w.grownBy W r)(hs:Near W v.ownBlock v'):Near w r v':=by
 rcases hs with e | ⟨b,e,hb⟩
 ·rcases hn with e2 | ⟨b,e2,hb⟩
  ·exact .inl (e.trans e2)
  ·exact .inr ⟨b,e.trans e2,hb⟩
 ·exact .inr ⟨b,e,Nat.le_trans h.size hb⟩
theorem gTrans {a b c:World}{r:Option Nat}(h:a.grownBy b r)(k:b.grownBy c r):a.grownBy c r:=⟨k.os.trans h.os,k.tape.trans h.tape,k.output.trans h.output,Nat.le_trans h.size k.size,fun i hi hne=>(k.block i (Nat.lt_of_lt_of_le hi h.size) hne).trans (h.block i hi hne)⟩
theorem gNew {a b:World}{r:Option Nat}(hb:Below a.heap.size a b):a.grownBy b r:=⟨hb.os,hb.tape,hb.output,hb.size,fun k hk _=>hb.block k hk⟩
theorem gSet (w:World)(b o:Nat)(v:Value):w.grownBy (w.setCell ⟨b,o,none⟩ v) (some b):=⟨rfl,rfl,rfl,by simp[World.setCell],fun k _ hne=>Below.heap_setCell w _ _ k (by intro e;exact hne (by rw[e]))⟩
theorem gSetNew {a b:World}{r:Option Nat}(h:a.grownBy b r){g:Nat}(hg:a.heap.size≤g)(o:Nat)(v:Value):a.grownBy (b.setCell ⟨g,o,none⟩ v) r:=⟨h.os,h.tape,h.output,by simp[World.setCell];exact h.size,fun k hk hne=>(Below.heap_setCell b _ _ k (by show k≠g;omega)).trans (h.block k hk hne)⟩
theorem gBelow {a b:World}{r:Option Nat}{base:Nat}(h:a.grownBy b r)(hr:∀ k,r=some k→base≤k)(hs:base≤a.heap.size):Below base a b:=(Below.refl _ _).grown h hs hr
theorem jjao {α:Type}[Inhabited α]{k:Nat}{enc:α→List Value}{P:Program}{w:World}(hk:∀ x,(enc x).length=k)(hk0:0<k)(h1c:∀ x,∀ u ∈ enc x,u.oneCell'=true)(t ty:TypeId)
  (base:Nat) (e:TypeId) (i:TypeInfo) (z:Value) (bytes:Nat) (ht:P.underlying t=some (.slice e)) (hi:P.info? e=some i) (hz:i.zero=some z)
  (hsize:i.size=k) (hby:i.bytes=bytes) (hzs:z.cells.size=k)
  (v:Value) (n:Nat) (ms:List Value) (hown:w.ownsRow base e k v n ms) (vx:Value) (ns:List α) (hX:Row k enc w vx ns)
  (h63:n+ns.length≤maxLen) (hbytes:(n+ns.length)*bytes≤140737488355328) (hbase:base≤w.heap.size):
  ∃ v' w',(Builtin.append_ #[t,t] ty #[v,vx]).run P w= .ok v' w'∧w'.ownsRow base e k v' (n+ns.length) (ms++ns.flatMap enc)∧w.grownBy w' v.ownBlock∧Near w v.ownBlock v':=by
 obtain⟨v',w',hr,h2,h3⟩:=jjbw hk hk0 h1c t ty base e i z bytes ht hi hz hsize hby hzs v n ms hown vx ns hX h63 hbytes hbase
 refine⟨v',w',hr,h2,h3,?_⟩
 have hX0:=hX;rcases hX with⟨hv,hzs0⟩ | ⟨ad,cap,hv,hc⟩
 ·subst hv
  have h:=run_append_owned_none (P:=P) (w:=w) base t ty e i k ht hi v n ms hown;rw[hr]at h;simp only[Result.ok.injEq]at h;rw[h.1];exact .inl rfl
 ·have hown0:=hown
  rcases hown.2 with⟨rfl,rfl⟩ | ⟨g,cap',cur,rfl,hbg,hg,hnc,hcm,hcs,htake⟩
  ·have hms:ms=[]:=List.eq_nil_of_length_eq_zero (by simpa using hown.1)
   subst hms;obtain⟨v2,w2,hr2,h22,_⟩:=jjbw (w:=w) hk hk0 h1c t ty w.heap.size e i z bytes ht hi hz hsize hby hzs (.slice none 0 0) 0 [] (World.ownsRow_nil _ _ _ _) vx ns hX0 h63 hbytes (Nat.le_refl _)
   rw[hr]at hr2;simp only[Result.ok.injEq]at hr2;rw[hr2.1];rcases h22.2 with⟨rfl,_⟩ | ⟨g,c,cu,rfl,hb,_⟩
   ·exact .inl rfl
   ·exact .inr ⟨g,rfl,hb⟩
  ·subst hv
   subst hsize;by_cases hroom:n+ns.length≤cap'
   ·have hl:(ns.flatMap enc).length=ns.length*i.size:=jjai hk ns
    have h:=run_append_room (P:=P) w t ty e i ht hi g n cap' cur hg ad ns.length cap (ns.flatMap enc) hl (row_news hk hk0 hc) (by
     intro u hu
     simp only[List.mem_flatMap]at hu
     obtain⟨y,_,hy⟩:=hu
     exact h1c y u hy) hroom (by rw[hl,hcs,← Nat.add_mul];exact Nat.mul_le_mul_right _ hroom)
    rw[hr]at h;simp only[Result.ok.injEq]at h;rw[h.1];exact .inl rfl
   ·have h:=run_append_grow (P:=P) w t ty e i z ht hi hz ⟨g,0,none⟩ n cap' ms hown.1 (hown.cells (g:=g) rfl) ad ns.length cap (ns.flatMap enc) (jjai hk ns) (row_news hk hk0 hc) (by omega) (by unfold maxLen at h63;omega) (by rw[hby];exact growslice_fits (by omega) hbytes)
    rw[hr]at h;simp only[Result.ok.injEq]at h;rw[h.1];exact .inr ⟨_,rfl,Nat.le_refl _⟩
theorem jjd1 {α:Type}[Inhabited α]{k:Nat}{enc:α→List Value}{P:Program}{w:World}{ops:Array Oper}{rest:List Oper}{o:Oper}{a:Act}{Q:Exit→Act→World→Prop}(hk:∀ x,(enc x).length=k)(hk0:0<k)(h1c:∀ x,∀ u ∈ enc x,u.oneCell'=true)(hgd:o.guard=none)(s x:Operand)(t:TypeId)
  (ho:o.op= .call {callee:= .builtin .append,args:=#[s,x],argTypes:=#[t,t]})
  (base:Nat) (e:TypeId) (i:TypeInfo) (z:Value) (bytes:Nat) (ht:P.underlying t=some (.slice e)) (hi:P.info? e=some i) (hz:i.zero=some z)
  (hsize:i.size=k) (hby:i.bytes=bytes) (hzs:z.cells.size=k)
  (v:Value) (n:Nat) (ms:List Value) (hs:a.eval s=v) (hown:w.ownsRow base e k v n ms)
  (vx:Value) (ns:List α) (hx:a.eval x=vx) (hX:Row k enc w vx ns)
  (h63:n+ns.length≤maxLen) (hbytes:(n+ns.length)*bytes≤140737488355328) (hbase:base≤w.heap.size)
  (h:∀ v' w',w'.ownsRow base e k v' (n+ns.length) (ms++ns.flatMap enc)→w.grownBy w' v.ownBlock→Near w v.ownBlock v'→wpList P ops Q rest (a.put o.dst v') w'):wpList P ops Q (o::rest) a w:=by
 obtain⟨v',w',hr,h2,h3,h4⟩:=jjao hk hk0 h1c t o.type base e i z bytes ht hi hz hsize hby hzs v n ms hown vx ns hX h63 hbytes hbase
 exact wpListAppendRun hgd s x t ho hs hx hr (h v' w' h2 h3 h4)
theorem wrapI {n:Int}(h0: -9223372036854775808≤n)(h1:n≤9223372036854775807):IntKind.i64.wrap n=n:=by
 have h64:IntKind.i64.wrap n=if n % 18446744073709551616≥9223372036854775808 then n % 18446744073709551616-18446744073709551616 else n % 18446744073709551616:=by
  simp[IntKind.wrap,IntKind.bits,IntKind.signed]
 rw[h64];split<;>omega
theorem jjak {w:World}{base:Nat}{e t:TypeId}{s:Nat}{v:Value}{n:Nat}{xs:List Value}(h:w.ownsRow base e s v n xs){b:Nat}{cs:Array Value}(hb:Blk w b cs t)(hne:e≠t):some b≠v.ownBlock:=by
 rcases h.2 with⟨rfl,_⟩ | ⟨g,cap',cur,rfl,hbg,hg,_⟩
 ·simp [Value.ownBlock]
 ·simp only[Value.ownBlock]
  intro e2;simp at e2;subst e2;unfold Blk at hb;rw[hg]at hb;simp at hb;exact hne hb.2
theorem jjfe {W w1:World}(s:St)(l:List St)(va vo:Value)(base:Nat)
  (hW:W.heap=w1.heap.push (.cells #[.int .i64 s.1,va] 45)) (hos:W.os=w1.os) (htp:W.tape=w1.tape) (hou:W.output=w1.output)
  (hown:OwnSts w1 base vo l) (hva:w1.ownsRow base 56 4 va s.2.length (s.2.flatMap encA)) (hl:(l.length+1)*32≤140737488355328) (hbase:base≤w1.heap.size):
  ∃ v3 w3,(Builtin.append_ #[22,22] 22 #[vo,.slice (some ⟨w1.heap.size,0,none⟩) 1 1]).run Tryz.prog W= .ok v3 w3∧OwnSts w3 base v3 (l++[s])∧Below base w1 w3∧W.grownBy w3 vo.ownBlock:=by
 obtain⟨v3,w3,hr,h1,h2⟩:=jjey s l va vo base hW hos htp hou hown hva hl hbase
 refine⟨v3,w3,hr,h1,h2,?_⟩
 obtain⟨i1,hi1,hy0,hy1,hy2⟩:=info_parts infoState
 obtain⟨vs,q1,q2,q3⟩:=hown
 have e1:∀ k,k<w1.heap.size→W.heap[k]? =w1.heap[k]?:=fun k hk=>by rw[hW,Array.getElem?_push_lt hk,Array.getElem?_eq_getElem hk]
 have e0:W.heap[w1.heap.size]? =some (.cells #[.int .i64 s.1,va] 45 (0,0)):=by rw[hW];simp
 have es:W.heap.size=w1.heap.size+1:=by rw[hW];simp
 have hg:w1.grownBy W none:=⟨hos,htp,hou,by omega,fun k hk _=>e1 k hk⟩
 have hvo:=q1.kept hg (by rcases vo.ownBlock with _ | _<;>simp);obtain⟨v4,w4,hr4,_,hg4,_⟩:=run_append_own (P:=Tryz.prog) W base 22 22 45 i1 _ 2 32 Tryz.underlying22 hi1 hy0 hy1 hy2 rfl (by omega) vo vs.length (vs.flatMap encS) hvo ⟨w1.heap.size,0,none⟩ 1 1 [.int .i64 s.1,va] rfl (World.news_of_block (cs:=#[.int .i64 s.1,va]) e0) (by
  intro u hu
  simp at hu
  rcases hu with rfl | rfl
  ·rfl
  ·exact own_one hva) (by rw[q2];unfold maxLen;omega) (by rw[q2];exact hl) (by omega)
 rw[hr]at hr4;simp only[Result.ok.injEq]at hr4;rw[hr4.2];exact hg4
end Go.Proofs.YtppkiejhhmahcaaGreatDoor.Wt
