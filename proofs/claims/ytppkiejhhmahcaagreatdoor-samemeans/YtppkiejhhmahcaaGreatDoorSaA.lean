/- Facts, joined. -/
import Derived.Test.YtppkiejhhmahcaaGreatDoorSaz
import Derived.Test.YtppkiejhhmahcaaGreatDoorSay
set_option linter.unusedSimpArgs false
set_option linter.unusedVariables false
set_option maxHeartbeats 3200000
set_option maxRecDepth 100000
namespace Go.Proofs.YtppkiejhhmahcaaGreatDoor.Pl
section
variable {α:Type} [DecidableEq α]
theorem numH_err (hs:List (Hg α)):∀ (L:List α) (n:Nat),(∀ h ∈ hs,h.2.2.1≤1000000000)→(numH hs L n).1=0∨(numH hs L n).1=5:=by
  induction hs with
  | nil=>intro L n _;exact .inl rfl
  | cons h hs ih=>
    intro L n hl;simp only[numH];rw[if_neg (by have:=hl h List.mem_cons_self;omega)];split
    · exact .inr rfl
    · exact ih _ _ fun k hk=>hl k (List.mem_cons_of_mem _ hk)
end
section
variable {α:Type} [DecidableEq α] [Inhabited α] {fin:α→Int × Int} {hops:α→List (Hg α)}
theorem numS_full {s0:α}(H:∀ q L S,ExpI fin hops s0 q L S→∀ i,i<L.length→(fin (el L i)).2=0∧∀ h ∈ hops (el L i),h.2.2.1≤1000000000):∀ (k q:Nat) (L:List α) (S:List St) (n:Nat),ExpI fin hops s0 q L S→numS fin hops k q L S n=((0,[]),5)∨∃ x,numS fin hops k q L S n=(x,0):=by
  intro k;induction k with
  | zero=>intro q L S n _;exact .inl rfl
  | succ k ih=>
    intro q L S n h;simp only[numS];by_cases hq:q<L.length
    · obtain⟨h1,h2⟩:=H q L S h q hq
      rw[if_pos hq,if_neg (fun g=>g h1)];rcases numH_err (hops (el L q)) L n h2 with e | e
      · rw[if_neg (fun g=>g e)]
        exact ih _ _ _ _ (h.step hq h1 e)
      · rw[if_pos (by rw[e];decide),e]
        exact .inl rfl
    · rw[if_neg hq]
      exact .inr ⟨_,rfl⟩
theorem numA_full {s0:α}(H:∀ q L S,ExpI fin hops s0 q L S→∀ i,i<L.length→(fin (el L i)).2=0∧∀ h ∈ hops (el L i),h.2.2.1≤1000000000):numA fin hops s0=((0,[]),5)∨∃ x,numA fin hops s0=(x,0):=numS_full H _ _ _ _ _ (ExpI.init fin hops s0)
theorem numS_arcs {s0:α}:∀ (k q:Nat) (L:List α) (S:List St) (n:Nat) (x:Mc),ExpI fin hops s0 q L S→arcN S=n→n≤400→numS fin hops k q L S n=(x,0)→arcN x.2≤400:=by
  intro k;induction k with
  | zero=>intro q L S n x _ _ _ e;simp only[numS,Prod.mk.injEq]at e;exact absurd e.2 (by decide)
  | succ k ih=>
    intro q L S n x h ha h4 e;simp only[numS]at e;split at e
    · rename_i hq
      split at e
      · rename_i he
        simp only[Prod.mk.injEq]at e;exact absurd e.2 he
      · rename_i he
        split at e
        · rename_i h0;simp only[Prod.mk.injEq]at e;exact absurd e.2 h0
        · rename_i h0
          have h0':(numH (hops (el L q)) L n).1=0:=by simpa using h0
          obtain⟨_,_,_,f4,_,f6⟩:=jjcp (hops (el L q)) L n h.nodup h0'
          refine ih _ _ _ _ _ (h.step hq (by simpa using he) h0') ?_ (f6 h4) e
          rw[jjbd,ha,f4];simp[arcN]
    · simp only[Prod.mk.injEq]at e
      obtain⟨rfl,_⟩:=e
      simp only;omega
theorem numA_arcs {s0:α}{x:Mc}(h:numA fin hops s0=(x,0)):arcN x.2≤400:=numS_arcs _ _ _ _ _ _ (ExpI.init fin hops s0) rfl (by simp[arcN]) h
end
section
variable {α β:Type} [DecidableEq α] [DecidableEq β] [Inhabited α] [Inhabited β] {fin:α→Int × Int} {hops:α→List (Hg α)} {fin':β→Int × Int} {hops':β→List (Hg β)} {g:Nat→β}
theorem numH_again (hg:∀ i j,g i=g j→i=j){F:List α}(hF:F.Nodup)(hs:List (Hg α)):∀ (L:List α) (n:Nat),(∃ E,F=L++E)→(numH hs L n).1=0→(∃ E,F=(numH hs L n).2.1++E)→
    numH (hs.map fun h=>(h.1,h.2.1,h.2.2.1,g (F.idxOf h.2.2.2))) ((List.range L.length).map g) n=(0,(List.range (numH hs L n).2.1.length).map g,(numH hs L n).2.2):=by
  induction hs with
  | nil=>intro L n _ _ _;simp[numH]
  | cons h hs ih=>
    intro L n hL h0 hE;simp only[numH]at h0 hE ⊢;by_cases c1:1000000000<h.2.2.1
    · rw[if_pos c1]at h0
      cases h0
    · rw[if_neg c1]at h0 hE ⊢
      by_cases c2:400<n+1∨60<(addG L h.2.2.2).length
      · rw[if_pos c2]at h0
        cases h0
      · rw[if_neg c2]at h0 hE ⊢
        simp only at h0 hE ⊢;simp only[List.map_cons,numH];rw[if_neg c1]
        -- what is added there is what is added here
        have hnd:(addG L h.2.2.2).Nodup:=by
          obtain⟨D,e⟩:=hL
          have:L.Nodup:=by rw[e,List.nodup_append]at hF;exact hF.1
          exact jjdh this _
        obtain⟨⟨D,eD⟩,_⟩:=jjcp hs (addG L h.2.2.2) (n+1) hnd h0
        have hFL:∃ E,F=addG L h.2.2.2++E:=by
          obtain⟨E,e⟩:=hE
          exact⟨D++E,by rw[e,eD,List.append_assoc]⟩
        have hidx:F.idxOf h.2.2.2=L.idxOf h.2.2.2:=by
          obtain⟨E,e⟩:=hFL
          rw[e,idxG_ext (jje1 _ _),jje2]
        have hadd:addG ((List.range L.length).map g) (g (F.idxOf h.2.2.2))=(List.range (addG L h.2.2.2).length).map g:=by
          by_cases hm:h.2.2.2 ∈ L
          · have hlt:L.idxOf h.2.2.2<L.length:=(jjck hm).1
            rw[jjd4 hm,jjd4];rw[hidx];exact List.mem_map.2 ⟨_,List.mem_range.2 hlt,rfl⟩
          · rw[jjd5 hm,jjd5]
            · rw[hidx,jje3 hm,List.length_append,List.length_singleton,List.range_succ,List.map_append]
              rfl
            · rw[hidx,jje3 hm]
              intro hc;obtain⟨i,hi,e⟩:=List.mem_map.1 hc
              have:=hg _ _ e;rw[List.mem_range]at hi;omega
        have hix2:((List.range L.length).map g).idxOf (g (F.idxOf h.2.2.2))=L.idxOf h.2.2.2:=by
          have hnd2:((List.range (addG L h.2.2.2).length).map g).Nodup:=by
            rw[List.nodup_iff_pairwise_ne,List.pairwise_map];exact List.nodup_range.imp fun {a b} hab e=>hab (hg _ _ e)
          have h1:L.idxOf h.2.2.2<(addG L h.2.2.2).length:=by
            have h2:=(jjck (jje1 L h.2.2.2)).1;rwa [jje2]at h2
          have h3:=jjb6 hnd2 (k:=L.idxOf h.2.2.2) (by simpa using h1);have h4:el ((List.range (addG L h.2.2.2).length).map g) (L.idxOf h.2.2.2)=g (L.idxOf h.2.2.2):=jjan _ h1;rw[h4]at h3;rw[← jje2,hadd,hidx];exact h3
        rw[hadd,if_neg (by simpa using c2),ih _ _ hFL h0 hE];simp only[arcG,hix2]
theorem numS_again (hg:∀ i j,g i=g j→i=j){F:List α}{X:List St}{s0:α}(hX:ExpI fin hops s0 F.length F X)(hfin:∀ i,i<F.length→fin' (g i)=((el X i).1,0))(hhop:∀ i,i<F.length→hops' (g i)=(el X i).2.map fun a=>(a.1,a.2.1,a.2.2.1,g a.2.2.2.toNat)):
    ∀ (k q:Nat) (L:List α) (S:List St) (n:Nat) (x:Mc),ExpI fin hops s0 q L S→(∃ E,F=L++E)→numS fin hops k q L S n=(x,0)→x.2=X→numS fin' hops' k q ((List.range L.length).map g) S n=(x,0):=by
  intro k;induction k with
  | zero=>intro q L S n x _ _ e _;simp only[numS,Prod.mk.injEq]at e;exact absurd e.2 (by decide)
  | succ k ih=>
    intro q L S n x h hF e hx;simp only[numS]at e ⊢;by_cases hq:q<L.length
    · rw[if_pos hq]at e
      rw[if_pos (by simpa using hq)];by_cases he:(fin (el L q)).2=0
      · rw[if_neg (fun k=>k he)]at e
        by_cases h0:(numH (hops (el L q)) L n).1=0
        · rw[if_neg (fun k=>k h0)]at e
          obtain⟨E,eF⟩:=hF
          have hqF:q<F.length:=by rw[eF,List.length_append];omega
          have elq:el F q=el L q:=by rw[eF];exact jjec hq
          have eg:el ((List.range L.length).map g) q=g q:=jjan _ hq
          -- where the run ends
          have hst:=h.step hq he h0;obtain⟨_,L',⟨D,eD⟩,hL'⟩:=numS_done _ _ _ _ _ _ hst e
          rw[hx]at hL';have hLF:L'=F:=by
            refine jjc2 ?_ fun i hi=>?_
            · have:=hL'.len;have:=hX.len;omega
            · have hlen:L'.length=F.length:=by have:=hL'.len;have:=hX.len;omega
              -- by what leads there
              induction i using Nat.strongRecOn with
              | _ i ihi=>
                by_cases h0i:i=0
                · subst h0i
                  rw[hL'.zero.2.1,hX.zero.2.1]
                · obtain⟨j,kk,g1,g2,g3,g4⟩:=hL'.led i (by omega) hi
                  have e1:=ihi j g1 (by omega);have s1:=hL'.sts j (by omega);have s2:=hX.sts j (by omega);rw[s1]at s2;rw[e1]at g3 s2;have s3:(hops (el F j)).map (arcG L')=(hops (el F j)).map (arcG F):=(Prod.mk.inj s2).2;have s4:arcG L' kk=arcG F kk:=List.map_inj_left.1 s3 kk g3;have s5:L'.idxOf kk.2.2.2=F.idxOf kk.2.2.2:=by
                    have:=(Prod.mk.inj (Prod.mk.inj (Prod.mk.inj s4).2).2).2;omega
                  rw[g4,jjb6 hL'.nodup hi]at s5;have hin:=hX.shut j (by omega) kk g3;rw[g4]at hin;have h7:=(jjck hin).2;rw[← s5]at h7;exact h7.symm
          have hF2:∃ E,F=(numH (hops (el L q)) L n).2.1++E:=⟨D,by rw[← hLF];exact eD⟩
          rw[eg,hfin q hqF];simp only;rw[if_neg (fun k=>k rfl),hhop q hqF,hX.sts q hqF,elq];simp only[List.map_map];have e9:(hops (el L q)).map ((fun a:Ar=>(a.1,a.2.1,a.2.2.1,g a.2.2.2.toNat)) ∘ arcG F)=(hops (el L q)).map fun h=>(h.1,h.2.1,h.2.2.1,g (F.idxOf h.2.2.2)):=List.map_congr_left fun h _=>by simp[arcG]
          rw[e9,numH_again hg hX.nodup (hops (el L q)) L n ⟨E,eF⟩ h0 hF2];simp only;rw[if_neg (fun k=>k rfl),List.length_map]
          have:=ih _ _ _ _ _ hst hF2 e hx;have e10:(fin (el L q)).1=(fin (el L q)).1:=rfl;exact this
        · rw[if_pos h0]at e
          simp only[Prod.mk.injEq]at e;exact absurd e.2 h0
      · rw[if_pos he]at e
        simp only[Prod.mk.injEq]at e;exact absurd e.2 he
    · rw[if_neg hq]at e
      rw[if_neg (by simpa using hq)];exact e
theorem numA_again (hg:∀ i j,g i=g j→i=j){F:List α}{x:Mc}{s0:α}(hx:numA fin hops s0=(x,0))(hX:ExpI fin hops s0 F.length F x.2)(hfin:∀ i,i<F.length→fin' (g i)=((el x.2 i).1,0))(hhop:∀ i,i<F.length→hops' (g i)=(el x.2 i).2.map fun a=>(a.1,a.2.1,a.2.2.1,g a.2.2.2.toNat)):
  numA fin' hops' (g 0)=(x,0):=by
 obtain⟨E,e⟩:=hX.start
 exact numS_again hg hX hfin hhop _ _ _ _ _ _ (ExpI.init fin hops s0) ⟨E,e⟩ hx rfl
end
def NineL (l:List St):Prop:=∀ s ∈ l,(s.1≠1000000001→s.1≤9)∧∀ a ∈ s.2,a.2.2.1≤9
def LowL (W:Int)(l:List St):Prop:=∀ s ∈ l,(s.1≠1000000001→s.1≤W)∧∀ a ∈ s.2,a.2.2.1≤W
theorem finB_may {n:Int}(h:n=1000000001∨(0≤n∧n≤1000000000)):finB n=true:=by
 simp only[finB,inB,Bool.or_eq_true,Bool.and_eq_true,decide_eq_true_eq];exact h
theorem arcB_may {n:Nat}{x:Ar}(h1:0≤x.1∧x.1≤1000)(h2:0≤x.2.1∧x.2.1≤1000)(h3:0≤x.2.2.1∧x.2.2.1≤1000000000)(h4:0≤x.2.2.2∧x.2.2.2<(n:Int)):arcB n x=true:=by
 simp only[arcB,inB,Bool.and_eq_true,decide_eq_true_eq];omega
theorem made_nine (r:Int × List (Int × Bool × List Ar))(states:Nat)(full:Bool):NineL (madeM r states full).2:=fun s hs=>by
 simp only[madeM,statesM,List.mem_map]at hs;obtain⟨q,_,rfl⟩:=hs
 split
 ·exact ⟨fun _=>by simp,fun a ha=>absurd ha (by simp)⟩
 ·refine ⟨fun h=>?_,fun a ha=>?_⟩
  ·unfold stM at h ⊢
   simp only at h ⊢;split
   ·have:=jjc0 (el r.2 q).1 10 (by omega);omega
   ·rename_i g;rw[if_neg g]at h;exact absurd rfl h
  ·simp only[stM,List.mem_map]at ha
   obtain⟨e,_,rfl⟩:=ha
   unfold arM
   have:=jjc0 e.2.2.1 10 (by omega);simp only;omega
section
variable {m x:Mc} {S:List Int} {B:Int}
theorem fns_low (hf:faultM m=0)(hS:SetN m.2.length B S){W:Int}(hw:∀ q,q<m.2.length→(el m.2 q).1≠1000000001→(el m.2 q).1≤W){c:Int}(h:c ∈ fnsL m.2 S):0≤c∧c≤B+W:=by
 obtain⟨q,hq,h1,h2,rfl⟩:=mem_fnsL.1 h
 have h3:=(jjcf hf hq h2).1;have h4:=hw q hq h2;rcases hS.rng q hq with h5 | h5
 ·exact absurd h5 h1
 ·omega
theorem jje5 (hf:faultM m=0)(hS:SetN m.2.length B S)(hB:B+1000000000<noneI)(h0:(finC m.2 S).2=0):
  ((finC m.2 S).1=1000000001∧fnsL m.2 S=[])∨(0≤(finC m.2 S).1∧(finC m.2 S).1≤1000000000∧(finC m.2 S).1 ∈ fnsL m.2 S∧∀ c ∈ fnsL m.2 S,(finC m.2 S).1≤c):=by
 have hl:∀ c ∈ fnsL m.2 S,0≤c∧c≤B+1000000000:=fun c h=>fns_low hf hS (fun q hq hn=>(jjcf hf hq hn).2) h
 unfold finC at h0 ⊢;simp only at h0 ⊢;rcases jjce (fnsL m.2 S)with h | h
 ·left
  refine⟨by unfold tldN;rw[if_pos h],(mnL_empty fun c hc=>?_).1 h⟩
  have:=hl c hc;omega
 ·right
  have h1:=hl _ h;have hn:mnL (fnsL m.2 S)≠noneI:=by omega
  unfold tldE at h0;rw[if_neg hn]at h0;have h2:¬ 1000000000<mnL (fnsL m.2 S):=fun g=>by rw[if_pos g]at h0;cases h0
  have e:tldN (mnL (fnsL m.2 S))=mnL (fnsL m.2 S):=by unfold tldN;rw[if_neg hn,if_neg h2]
  rw[e];exact⟨h1.1,by omega,h,fun c hc=>jjci hc⟩
theorem fin_ok (hf:faultM m=0)(hS:SetN m.2.length B S){W:Int}(hw:∀ q,q<m.2.length→(el m.2 q).1≠1000000001→(el m.2 q).1≤W)(hB:B+W≤1000000000):(finC m.2 S).2=0∧((finC m.2 S).1≠1000000001→(finC m.2 S).1≤B+W):=by
 unfold finC;simp only;rcases jjce (fnsL m.2 S)with h | h
 ·unfold tldE tldN
  rw[if_pos h,if_pos h];exact⟨rfl,fun g=>absurd rfl g⟩
 ·have h1:=fns_low hf hS hw h
  have hn:mnL (fnsL m.2 S)≠noneI:=by unfold noneI;omega
  unfold tldE tldN;rw[if_neg hn,if_neg hn,if_neg (by omega),if_neg (by omega)];exact⟨rfl,fun _=>h1.2⟩
theorem jjet (hf:faultM m=0)(hz:0≤m.1)(h:cerA m=(x,0)):empB m.2=false∧m.1.toNat<m.2.length∧x.1=0∧numA (finC m.2) (hopsC m.2) (iniS m.2.length m.1.toNat)=(x,0)∧∃ L,ExpI (finC m.2) (hopsC m.2) (iniS m.2.length m.1.toNat) L.length L x.2:=by
  unfold cerA at h;rw[if_neg (fun g=>g hf)]at h;cases he:empB m.2 with
  | true=>rw [he,if_pos rfl]at h;simp only[Prod.mk.injEq]at h;exact absurd h.2 (by decide)
  | false=>
    rw[he,if_neg (by decide),if_neg (by omega)]at h;obtain⟨h1,L,h2⟩:=jjfu h
    have:=(jjag hf).1;exact⟨rfl,by omega,h1,h,L,h2⟩
theorem cer_costs (hf:faultM m=0)(hz:0≤m.1)(h:cerA m=(x,0))(u v:List Int):(∀ c,Costs x u v c→Costs m u v c)∧∀ c,Costs m u v c→∃ d,d≤c∧Costs x u v d:=by
 obtain⟨_,hzl,hx1,_,L,hE⟩:=jjet hf hz h
 have hlen:=hE.len;constructor
 ·rintro c ⟨_,p,d,hw,hp,hn,rfl⟩
  rw[hx1]at hw;obtain⟨h1,h2⟩:=hE.way hw
  have hS:=jjem hf hzl hE (jjac h1);have hs:=hE.sts p h1;rw[hs]at hn ⊢;simp only at hn ⊢;rcases jje5 hf hS (by unfold noneI;omega) (hE.right p h1)with⟨g,_⟩ | ⟨g1,g2,g3,g4⟩
  ·exact absurd g hn
  ·obtain ⟨q,hq,k1,k2,k3⟩:=mem_fnsL.1 g3
   have hw2:=cer_ways hf hzl hE h2 q hq k1;refine⟨hz,q,_,hw2,hq,k2,?_⟩
   have k4:0≤el (el L p) q:=by
    rcases hS.rng q hq with g | g
    ·exact absurd g k1
    ·exact g.1
   have k5:=(jjcf hf hq k2).1;omega
 ·rintro c ⟨_,p,d,hw,hp,hn,rfl⟩
  obtain⟨_,t,e,h1,h2,h3⟩:=cer_hops hf hzl hE hw
  obtain⟨i,k1,k2,g2⟩:=hE.hopAt h1
  have hS:=jjem hf hzl hE (jjac k1);rw[k2]at hS;have hs:=hE.sts _ k1;have hm:el t p+(el m.2 p).1 ∈ fnsL m.2 t:=mem_fnsL.2 ⟨p,hp,h2,hn,rfl⟩;have hr:=hE.right _ k1;rw[k2]at hs hr;rcases jje5 hf hS (by unfold noneI;omega) hr with⟨_,g⟩ | ⟨f1,f2,f3,f4⟩
  ·rw [g]at hm;cases hm
  ·have h5:=f4 _ hm
   refine⟨e+(el x.2 i).1.toNat,?_,by omega,i,e,by rw[hx1];exact g2,by omega,?_,rfl⟩
   ·rw [hs]
    simp only
    have:=(jjcf hf hp hn).1;omega
   ·rw [hs]
    simp only;omega
theorem hop_lab (hf:faultM m=0){t:List Int}{h:Hg (List Int)}(hh:h ∈ hopsC m.2 t):0≤h.1∧h.1≤1000∧0≤h.2.1∧h.2.1≤1000:=by
 unfold hopsC at hh;obtain⟨p,hp,rfl⟩:=List.mem_map.1 hh
 obtain⟨q,hq,_,a,ha,e⟩:=mem_prsL.1 hp
 obtain⟨h1,h2,h3,h4,_⟩:=jjbi hf hq ha
 unfold hopC;rw[← e];exact⟨h1,h2,h3,h4⟩
theorem cer_right (hf:faultM m=0)(hz:0≤m.1)(h:cerA m=(x,0)):faultM x=0∧0<x.2.length∧x.1=0:=by
 obtain⟨_,hzl,hx1,hn,L,hE⟩:=jjet hf hz h
 have hlen:=hE.len;have h60:=hE.l60;have h0:=hE.zero.1;have har:=numA_arcs hn;refine⟨jjb4 ?_ ?_,by omega,hx1⟩
 ·simp only[sizeB,Bool.and_eq_true,decide_eq_true_eq]
  exact⟨by omega,har⟩
 ·simp only[rangeB,Bool.and_eq_true,List.all_eq_true]
  refine⟨by simp only[inB,Bool.and_eq_true,decide_eq_true_eq];omega,fun s hs=>?_⟩
  obtain⟨i,hi,rfl⟩:=jja1 hs
  have hiL:i<L.length:=by omega
  have hS:=jjem hf hzl hE (jjac hiL);rw[hE.sts i hiL];simp only[stB,Bool.and_eq_true,List.all_eq_true];refine⟨?_,fun y hy=>?_⟩
  ·refine finB_may ?_
   rcases jje5 hf hS (by unfold noneI;omega) (hE.right i hiL)with⟨g,_⟩ | ⟨g1,g2,_⟩
   ·exact .inl g
   ·exact .inr ⟨g1,g2⟩
  ·obtain ⟨g,hg,rfl⟩:=List.mem_map.1 hy
   have r1:=hop_lab hf hg;have r2:=hE.low i hiL g hg;have r3:=(jjck (hE.shut i hiL g hg)).1;have r4:0≤g.2.2.1:=by
    unfold hopsC at hg;obtain⟨p,hp,rfl⟩:=List.mem_map.1 hg
    exact(jjcr (W:=1000000000) hf hS (fun q a ha=>(jjb0 hf (el_in ha) ha).2.1) (by unfold noneI;omega) hp).1
   refine arcB_may ⟨r1.1,r1.2.1⟩ ⟨r1.2.2.1,r1.2.2.2⟩ ⟨r4,r2⟩ ?_
   simp only[arcG];omega
theorem cer_pairs (hf:faultM m=0)(hz:0≤m.1)(h:cerA m=(x,0)){i:Nat}(hi:i<x.2.length):(el x.2 i).2.Pairwise fun a b=>ltP (a.1,a.2.1) (b.1,b.2.1):=by
 obtain⟨_,hzl,hx1,hn,L,hE⟩:=jjet hf hz h
 have hlen:=hE.len;rw[hE.sts i (by omega)];simp only[hopsC];rw[List.map_map,List.pairwise_map];exact(prsL_pair _ _).imp fun {p q} h=>h
theorem ltP_el {l:List Ar}(h:l.Pairwise fun a b=>ltP (a.1,a.2.1) (b.1,b.2.1)){j k:Nat}(hk:k<l.length)(hj:j<k):ltP ((el l j).1,(el l j).2.1) ((el l k).1,(el l k).2.1):=by
 rw[jjaj (by omega),jjaj hk];exact List.pairwise_iff_getElem.1 h j k (by omega) hk hj
theorem ltP_once {l:List Ar}(h:l.Pairwise fun a b=>ltP (a.1,a.2.1) (b.1,b.2.1)):onceB l=true∧sortB l=true:=by
 constructor
 ·rw [onceB_iff]
  intro k hk j hj;have h1:=ltP_el h hk hj;unfold ltP at h1;simp only at h1;rw[← Bool.not_eq_true,pairB_iff];omega
 ·rw [sortB_iff]
  intro i hi;have h1:=ltP_el h hi (Nat.lt_succ_self i);unfold ltP at h1;simp only at h1;rw[jja3];omega
theorem cer_full (hf:faultM m=0)(hz:0≤m.1)(h:cerA m=(x,0)):empB x.2=false:=by
 obtain⟨he,hzl,hx1,hn,L,hE⟩:=jjet hf hz h
 have hlen:=hE.len;unfold empB at he ⊢;rw[List.any_eq_false]at he ⊢;intro s hs;rw[Bool.not_eq_true,List.any_eq_false];obtain⟨i,hi,rfl⟩:=jja1 hs
 rw[hE.sts i (by omega)];intro a ha;obtain⟨g,hg,rfl⟩:=List.mem_map.1 ha
 unfold hopsC at hg;obtain⟨p,hp,rfl⟩:=List.mem_map.1 hg
 obtain⟨q,hq,_,b,hb,e⟩:=mem_prsL.1 hp
 have h1:=he _ (jjac hq);rw[Bool.not_eq_true,List.any_eq_false]at h1;have h2:=h1 b hb;simp only[arcG,hopC];rw[← e];exact h2
theorem cer_two (hf:faultM m=0)(hz:0≤m.1)(he:empB m.2=false){W:Int}(hW:0≤W∧W≤130)(hl:LowL W m.2):cerA m=((0,[]),5)∨∃ x,cerA m=(x,0)∧CheapL x.2:=by
 have hzl:m.1.toNat<m.2.length:=by have:=(jjag hf).1;omega
 have hw:∀ q a,a ∈ (el m.2 q).2→a.2.2.1≤W:=fun q a ha=>(hl _ (jjac (el_in ha))).2 a ha
 have hv:∀ q,q<m.2.length→(el m.2 q).1≠1000000001→(el m.2 q).1≤W:=fun q hq hn=>(hl _ (jjac hq)).1 hn
 have key:∀ q L X,ExpI (finC m.2) (hopsC m.2) (iniS m.2.length m.1.toNat) q L X→∀ i,i<L.length→SetN m.2.length 7800 (el L i):=fun q L X hE i hi=>by
  have h1:=cer_sets hf hzl (by omega) hw hE i hi;have h60:=hE.l60;refine h1.mono ?_
  have h4:W*(i:Int)≤130*(i:Int):=Int.mul_le_mul_of_nonneg_right hW.2 (by omega);omega
 have low:∀ q L X,ExpI (finC m.2) (hopsC m.2) (iniS m.2.length m.1.toNat) q L X→∀ i,i<L.length→∀ h ∈ hopsC m.2 (el L i),h.2.2.1≤7930:=fun q L X hE i hi h hh=>by
  unfold hopsC at hh;obtain⟨p,hp,rfl⟩:=List.mem_map.1 hh
  have:=(jjcr hf (key q L X hE i hi) hw (by unfold noneI;omega) hp).2.1;omega
 have hc:cerA m=numA (finC m.2) (hopsC m.2) (iniS m.2.length m.1.toNat):=by
  unfold cerA;rw[if_neg (fun g=>g hf),he,if_neg (by decide),if_neg (by omega)]
 rw[hc];rcases numA_full (fin:=finC m.2) (hops:=hopsC m.2) (s0:=iniS m.2.length m.1.toNat) (fun q L X hE i hi=>⟨(fin_ok hf (key q L X hE i hi) hv (by omega)).1,fun h hh=>by have:=low q L X hE i hi h hh;omega⟩)with h | ⟨x,h⟩
 ·exact .inl h
 ·refine .inr ⟨x,h,?_⟩
  obtain⟨_,L,hE⟩:=jjfu h
  have hlen:=hE.len;intro s hs;obtain⟨i,hi,rfl⟩:=jja1 hs
  rw[hE.sts i (by omega)];refine⟨fun hn=>?_,fun a ha=>?_⟩
  ·have:=(fin_ok hf (key _ L _ hE i (by omega)) hv (by omega)).2 hn
   omega
  ·obtain ⟨g,hg,rfl⟩:=List.mem_map.1 ha
   have:=low _ L _ hE i (by omega) g hg;simp only[arcG];omega
end
theorem par_mem {n:Nat}{L:List (List Int)}{R:List Int}(hL:∀ T ∈ L,T.length=n)(hR:R.length=n):parL R ∈ L.map parL↔R ∈ L:=by
 constructor
 ·intro h
  obtain⟨T,hT,e⟩:=List.mem_map.1 h
  have:=parL_inj ((hL T hT).trans hR.symm) e;rwa [← this]
 ·exact fun h=>List.mem_map.2 ⟨R,h,rfl⟩
theorem addG_par {n:Nat}{L:List (List Int)}{R:List Int}(hL:∀ T ∈ L,T.length=n)(hR:R.length=n):addG (L.map parL) (parL R)=(addG L R).map parL:=by
 unfold addG;by_cases h:R ∈ L
 ·rw [if_pos h,if_pos ((par_mem hL hR).2 h)]
 ·rw [if_neg h,if_neg (fun g=>h ((par_mem hL hR).1 g)),List.map_append]
  rfl
theorem nodup_par {n:Nat}{L:List (List Int)}(hL:∀ T ∈ L,T.length=n)(hN:L.Nodup):(L.map parL).Nodup:=by
 rw[List.nodup_iff_pairwise_ne,List.pairwise_map];exact hN.imp_of_mem fun {x y} hx hy hxy e=>hxy (parL_inj ((hL x hx).trans (hL y hy).symm) e)
theorem arcG_par {n:Nat}{L:List (List Int)}{R:List Int}(hL:∀ T ∈ L,T.length=n)(hR:R.length=n)(hN:L.Nodup){jx:Nat}(h1:parL R ∈ L.map parL→jx<(L.map parL).length∧el (L.map parL) jx=parL R)(h2:parL R ∉ L.map parL→jx=(L.map parL).length)(x0 x1 c:Int):arcG L (x0,x1,c,R)=(x0,x1,c,(jx:Int)):=by
 unfold arcG;simp only;by_cases h:R ∈ L
 ·obtain ⟨g1,g2⟩:=h1 ((par_mem hL hR).2 h)
  rw[List.length_map]at g1;rw[jja2 g1]at g2;have e:=parL_inj ((hL _ (jjac g1)).trans hR.symm) g2;have h9:=jjb6 hN g1;rw[e]at h9;rw[h9]
 ·have g1:=h2 (fun g=>h ((par_mem hL hR).1 g))
  rw[List.length_map]at g1;rw[jje3 h,g1]
theorem hops_good {m:Mc}{T:List Int}(hf:faultM m=0)(hT:SetN m.2.length 60000000000 T){i:Nat}(hi:i<(hopsC m.2 T).length):SetN m.2.length 100000000000 (el (hopsC m.2 T) i).2.2.2∧0≤(el (hopsC m.2 T) i).2.2.1∧(el (hopsC m.2 T) i).2.2.1≤100000000000:=by
 have hi':i<(prsL m.2 T).length:=by unfold hopsC at hi;rwa [List.length_map]at hi
 have e:el (hopsC m.2 T) i=hopC m.2 T (el (prsL m.2 T) i):=by unfold hopsC;rw[jja2 hi']
 rw[e];have h1:=jjcr hf hT (W:=1000000000) (fun q a ha=>(jjb0 hf (el_in ha) ha).2.1) (by unfold noneI;omega) (jjac hi');exact⟨h1.2.2.1.mono (by omega),h1.1,by have:=h1.2.1;omega⟩
theorem hpL_good {P:List Int→Prop}{hs:List (Hg (List Int))}{L:List (List Int)}(h1:∀ T ∈ L,P T)(h2:∀ i,i<hs.length→P (el hs i).2.2.2):∀ i,i≤hs.length→∀ T ∈ hpL hs L i,P T
  | 0,_=>h1
  | i+1,hi=>fun T hT=>by
    have e:hpL hs L (i+1)=addG (hpL hs L i) (el hs i).2.2.2:=rfl;rw[e]at hT;unfold addG at hT;split at hT
    · exact hpL_good h1 h2 i (by omega) T hT
    · rcases List.mem_append.1 hT with g | g
      · exact hpL_good h1 h2 i (by omega) T g
      · rw[List.mem_singleton]at g
        rw[g];exact h2 i (by omega)
theorem arcW_pos {m:Mc}{T:List Int}(hf:faultM m=0)(hT:SetN m.2.length 60000000000 T):∀ a ∈ sortL (arcW m.2 (parL T)),0≤a.2.2.1∧a.2.2.1≤2000000000000:=fun a ha=>by
 rw[(jjb2 _).mem_iff,mem_arcW]at ha;obtain⟨q,hq,h1,b,hb,rfl⟩:=ha
 rw[hT.len]at hq;have h2:=jjb0 hf hq hb;rcases hT.rng q hq with g | g
 ·exact absurd g h1
 ·simp only[wtA]
  omega
theorem sort_leP (l:List Ar):∀ i j,i<j→j<(sortL l).length→leP (labA (el (sortL l) i)) (labA (el (sortL l) j)):=fun i j hij hj=>by
 have h9:=List.pairwise_iff_getElem.1 (jjbq l) i j (by omega) hj hij;rw[← jjaj,← jjaj]at h9;simp only[leB,Bool.not_eq_true',jja3]at h9;unfold leP labA;simp only;omega
end Pl
namespace Wt
open ChangeShapes WideShapes ChangeAt RowKit Maps Pl
theorem OwnP.setB {w:World}{base:Nat}{v:Value}{ps:List Pa}(h:OwnP w base v ps){b:Nat}{cs:Array Value}{t:TypeId}(hb:Blk w b cs t)(hi:92≠t)(o:Nat)(u:Value):OwnP (w.setCell ⟨b,o,none⟩ u) base v ps:=World.ownsRow.kept h (gSet w b o u) (.inr (Ne.symm (jjak h hb hi)))
theorem makBegin_any (w0 W:World)(base b:Nat)(a:Option Addr)(np c:Nat)(z:Int)(hB:Blk W b #[.map none,.slice none 0 0,.slice none 0 0,.int .i64 0] 89)(hb:base≤b)(hP:OwnP W base (.slice a np c) [(z,0)])(hz:0≤z∧z≤100000)(ht:Tab w0)(hb0:Below w0.heap.size w0 W)(hwb:w0.heap.size≤base):
  Calls Tryz.prog 50 #[.pointer (some ⟨b,0,none⟩),.slice a np c] W fun e W'=>e= .returned (.tuple #[])∧Below base W W'∧∃ mb vt,MakN W' base b mb vt (.slice none 0 0) [[(z,0)]] 0:=by
 have hbl:=hB.lt;have hmm:(Instr.makeMap 86 none).run Tryz.prog W= .ok (.map (some W.heap.size)) (W.alloc (.map #[] 0)):=by
  simp[Instr.makeMap,run_underlying Tryz.underlying86]
 have c0:=hB.cell 0 (v:= .map none) rfl;have f0:=hB.fz 0;have sz2:(W.setCell ⟨b,0,none⟩ (.map (some W.heap.size))).heap.size=W.heap.size:=by simp[World.setCell]
 have m2:=TxM.made (W.setCell ⟨b,0,none⟩ (.map (some W.heap.size)));rw[sz2]at m2;have hN3:MakN ((W.setCell ⟨b,0,none⟩ (.map (some W.heap.size))).alloc (.map #[] 0)) base b W.heap.size (.slice none 0 0) (.slice none 0 0) [] 0:=⟨(hB.set 0 _).alloc _,m2,SetsM.nil _ _,hb,by omega⟩
 have hB3:Below base W ((W.setCell ⟨b,0,none⟩ (.map (some W.heap.size))).alloc (.map #[] 0)):=(((Below.refl _ _).setCell (p:=⟨b,0,none⟩) hb _).alloc (by rw[sz2];omega) _)
 have hP3:OwnP ((W.setCell ⟨b,0,none⟩ (.map (some W.heap.size))).alloc (.map #[] 0)) base (.slice a np c) [(z,0)]:=(hP.setB hB (by decide) 0 _).later ((Below.refl _ _).alloc (Nat.le_refl _) _)
 have HC:=hidP (makNum_any base b W.heap.size _ _ [] 0 a np c [(z,0)] _ hN3 hP3 (ht.later (hb0.trans (hB3.mono hwb))) (fun p hp=>by rw[List.mem_singleton]at hp;subst hp;exact⟨hz.1,hz.2,by simp,by simp⟩) (by simp) (by simp) (fun qs hq=>by cases hq) (by simp) (by simp) (by have h9:=hB3.size;omega));have HB3:=hidP hB3;have HE:Hid (addG [] [(z,(0:Int))]=[[(z,0)]]):=rfl
 clear hB m2 hN3 hB3 hP hP3 sz2 ht hb0;go_enter Tryz.func50,Tryz.ntmps50;go_wp2_with (first
  | (go_at_call 105;(with_reducible refine HC.out.mono ?_);rintro e w5 ⟨jx,rfl,_,⟨vt5,h5⟩,hk5,hb5⟩;have H5:=hidP h5;have B5:=hidP hb5;clear h5 hk5 hb5))
 go_end0;exact⟨rfl,HB3.out.trans B5.out,W.heap.size,vt5,HE.out▸H5.out⟩
def MakQ (b s:Nat)(w w':World):Prop:=w.heap.size≤w'.heap.size∧∀ k cs t,Blk w k cs t→k≠b→k≠s→t≠94→Blk w' k cs t
theorem MakQ.refl (b s:Nat)(w:World):MakQ b s w w:=⟨Nat.le_refl _,fun _ _ _ h _ _ _=>h⟩
theorem MakQ.next {b s:Nat}{w w1 w2:World}(h:MakQ b s w w1)(k:MakK b w1 w2):MakQ b s w w2:=⟨Nat.le_trans h.1 k.1,fun q cs t hb h1 h2 h3=>k.2 q cs t (h.2 q cs t hb h1 h2 h3) h1 h3⟩
theorem MakQ.far {b s:Nat}{W w w':World}(h:MakQ b s W w)(hs:w.heap.size≤w'.heap.size)(hh:∀ k,k<W.heap.size→k≠s→w'.heap[k]? =w.heap[k]?):MakQ b s W w':=
 ⟨Nat.le_trans h.1 hs,fun k cs t hb h1 h2 h3=>(h.2 k cs t hb h1 h2 h3).keep (hh k hb.lt h2)⟩
theorem MakQ.row {b sb base:Nat}{w w':World}{e:TypeId}{s:Nat}{v:Value}{n:Nat}{xs:List Value}(hK:MakQ b sb w w')(ho:w.ownsRow base e s v n xs)(he:e≠94)(hb:some b≠v.ownBlock)(hs:some sb≠v.ownBlock):w'.ownsRow base e s v n xs:=by
 refine⟨ho.1,?_⟩
 rcases ho.2 with hn | ⟨g,cap,cur,rfl,hbg,hgg,rest⟩
 ·exact .inl hn
 ·exact .inr ⟨g,cap,cur,rfl,hbg,hK.2 g cur e hgg (fun e=>hb (by simp[Value.ownBlock,e])) (fun e=>hs (by simp[Value.ownBlock,e])) he,rest⟩
section
variable {w w' W:World} {base b mb Sb:Nat} {vt vs va:Value} {L:List (List Pa)} {n fin:Int} {ar:List Ar}
theorem MakN.grown (h:MakN w base b mb vt vs L n){B:Nat}{v:Value}{ar:List Ar}(ho:OwnArcs w B v ar)(hg:w.grownBy w' v.ownBlock):MakN w' base b mb vt vs L n:=
 ⟨h.blk.grown hg (jjak ho h.blk (by decide)),h.tr.keep (hg.block _ h.tr.lt (h.tr.neRow ho)),h.trs.kept ho (by decide) (by decide) hg,h.hb,h.hm⟩
theorem MakN.setX (h:MakN w base b mb vt vs L n){k:Nat}{cs:Array Value}{t:TypeId}(hk:Blk w k cs t)(h1:89≠t)(h2:94≠t)(h3:92≠t)(o:Nat)(v:Value):MakN (w.setCell ⟨k,o,none⟩ v) base b mb vt vs L n:=by
 have hne:b≠k:=fun e=>by
  subst e;have h4:=h.blk;unfold Blk at h4 hk;rw[h4]at hk;simp only[Option.some.injEq,Obj.cells.injEq]at hk;exact h1 hk.2.1
 exact⟨h.blk.setO _ _ hne,h.tr.keep (Below.heap_setCell w ⟨k,o,none⟩ v mb (h.tr.neBlk hk)),h.trs.setB hk h2 h3 o v,h.hb,h.hm⟩
theorem MakN.setN (h:MakN w base b mb vt vs L n)(k:Int):MakN (w.setCell ⟨b,3,none⟩ (.int .i64 k)) base b mb vt vs L k:=
 ⟨h.blk.set 3 _,h.tr.keep (Below.heap_setCell w ⟨b,3,none⟩ _ mb (Ne.symm h.ne)),h.trs.setB h.blk (by decide) (by decide) 3 _,h.hb,h.hm⟩
structure AddJ (W w:World)(base b mb Sb:Nat)(vt vs:Value)(L:List (List Pa))(n fin:Int)(va:Value)(ar:List Ar):Prop where
 mak:MakN w base b mb vt vs L n
 keep:MakQ b Sb W w
 below:Below base W w
 sb:Blk w Sb #[.int .i64 fin,va] 45
 arcs:OwnArcs w W.heap.size va ar
 blt:b<W.heap.size
 slt:Sb<W.heap.size
 sge:base≤Sb
theorem AddJ.bs (h:AddJ W w base b mb Sb vt vs L n fin va ar):Sb≠b:=fun e=>by
 have h1:=h.sb;have h2:=h.mak.blk;rw[e]at h1;unfold Blk at h1 h2;rw[h1]at h2;exact absurd h2 (by simp)
theorem AddJ.later (h:AddJ W w base b mb Sb vt vs L n fin va ar)(hb:Below w.heap.size w w'):AddJ W w' base b mb Sb vt vs L n fin va ar:=
 ⟨h.mak.later hb,h.keep.next (MakK.of hb),h.below.trans (hb.mono (Nat.le_trans (by have:=h.sge;have:=h.slt;omega) h.keep.1)),h.sb.below hb h.sb.lt,h.arcs.later hb,h.blt,h.slt,h.sge⟩
theorem AddJ.num (h:AddJ W w base b mb Sb vt vs L n fin va ar){vt':Value}{L':List (List Pa)}(hc:MakN w' base b mb vt' vs L' n)(hk:MakK b w w')(hb:Below base w w'):AddJ W w' base b mb Sb vt' vs L' n fin va ar:=
 ⟨hc,h.keep.next hk,h.below.trans hb,hk.2 _ _ _ h.sb h.bs (by decide),hk.row h.arcs (by decide) (jjak h.arcs h.mak.blk (by decide)),h.blt,h.slt,h.sge⟩
theorem AddJ.setN (h:AddJ W w base b mb Sb vt vs L n fin va ar)(k:Int):AddJ W (w.setCell ⟨b,3,none⟩ (.int .i64 k)) base b mb Sb vt vs L k fin va ar:=
 ⟨h.mak.setN k,h.keep.next MakK.set,h.below.setCell (p:=⟨b,3,none⟩) h.mak.hb _,h.sb.setO _ _ h.bs,World.ownsRow.kept h.arcs (gSet w b 3 _) (.inr (Ne.symm (jjak h.arcs h.mak.blk (by decide)))),h.blt,h.slt,h.sge⟩
theorem AddJ.setA (h:AddJ W w base b mb Sb vt vs L n fin va ar){A:Nat}{cs:Array Value}(hA:W.heap.size≤A)(hne:some A≠va.ownBlock)(hb:Blk w A cs 56)(o:Nat)(v:Value):AddJ W (w.setCell ⟨A,o,none⟩ v) base b mb Sb vt vs L n fin va ar:=by
 have hs:=h.slt;have hg:=h.sge;exact⟨h.mak.setX hb (by decide) (by decide) (by decide) o v,h.keep.far (by simp[World.setCell]) (fun k hk _=>Below.heap_setCell w ⟨A,o,none⟩ v k (by show k≠A;omega)),h.below.setCell (p:=⟨A,o,none⟩) (by show base≤A;omega) _,h.sb.setO _ _ (by show Sb≠A;omega),World.ownsRow.kept h.arcs (gSet w A o v) (.inr (Ne.symm hne)),h.blt,h.slt,h.sge⟩
theorem AddJ.push (h:AddJ W w base b mb Sb vt vs L n fin va ar)(c:Ar)(hl:ar.length≤100000):
  ∃ a k q w',(Builtin.append_ #[43,43] 43 #[va,.slice (some ⟨w.heap.size,0,none⟩) 1 1]).run Tryz.prog (w.alloc (.cells #[.int .i64 c.1,.int .i64 c.2.1,.int .i64 c.2.2.1,.int .i64 c.2.2.2] 56))= .ok (.slice a k q) w'∧Blk w' Sb #[.int .i64 fin,va] 45∧AddJ W (w'.setCell ⟨Sb,1,none⟩ (.slice a k q)) base b mb Sb vt vs L n fin (.slice a k q) (ar++[c]):=by
 have hA:=h.later ((Below.refl w.heap.size w).alloc (Nat.le_refl _) (.cells (encA c).toArray 56));have hz:=h.keep.1;have hsl:=h.slt;have hsg:=h.sge;obtain⟨v4,w4,r4,hO,hb4,hg4⟩:=h.arcs.pushJ c hl hz
 obtain⟨a,q,hv⟩:=hO.sl
 subst hv;have hS:Blk w4 Sb #[.int .i64 fin,va] 45:=hA.sb.grown hg4 (jjak hA.arcs hA.sb (by decide));have hK4:MakQ b Sb W w4:=hA.keep.far hg4.size (fun k hk _=>hg4.block k (Nat.lt_of_lt_of_le hk hA.keep.1) (fun e=>by have:=(hA.arcs.lt k e.symm).1;omega));have hC4:=hA.mak.grown hA.arcs hg4
 refine⟨a,_,q,w4,r4,hS,hC4.setX hS (by decide) (by decide) (by decide) 1 _,hK4.far (by simp[World.setCell]) (fun k hk hne=>Below.heap_setCell w4 ⟨Sb,1,none⟩ _ k hne),(h.below.trans (hb4.mono (by omega))).setCell (p:=⟨Sb,1,none⟩) hsg _,hS.set 1 _,World.ownsRow.kept hO (gSet w4 Sb 1 _) (.inr (Ne.symm (jjak hO hS (by decide)))),h.blt,h.slt,h.sge⟩
end
def HeldM4 (b:Nat)(vs:Value)(k:Nat)(x:Int)(va:Value)(w:World):Prop:=w.cell? ⟨b,2,none⟩=some vs∧w.cell? ⟨k,0,none⟩=some (.int .i64 x)∧w.cell? ⟨k,1,none⟩=some va
def AddAns (W:World)(base b mb:Nat)(l:List St)(T:List Int)(L:List (List Int))(S:List St)(n:Nat)(ec:Int)(W':World):Prop:=
 ((finC l T).2≠0∧ec=(finC l T).2)∨((finC l T).2=0∧((ec=4∧∃ i,i<(hopsC l T).length∧Fine (hopsC l T) L n i∧1000000000<(el (hopsC l T) i).2.2.1)∨(ec=5∧∃ i,i<(hopsC l T).length∧Fine (hopsC l T) L n i∧(el (hopsC l T) i).2.2.1≤1000000000∧(400<n+(i+1)∨60<(hpL (hopsC l T) L (i+1)).length))∨
  (ec=0∧Fine (hopsC l T) L n (hopsC l T).length∧∃ vt vs,MakN W' base b mb vt vs ((hpL (hopsC l T) L (hopsC l T).length).map parL) ((n+(hopsC l T).length:Nat):Int)∧OwnSts W' base vs (S++[((finC l T).1,hpA (hopsC l T) L (hopsC l T).length)]))))
theorem LstM.get {w:World}{base:Nat}{a:Option Addr}{n c:Nat}{av:Option Addr}{cap:Nat}{cs:List (Nat × Nat)}(h:LstM w base (.slice a n c) av cap cs){q:Nat}(hq:q<cs.length):∃ G,a=some ⟨G,0,none⟩∧G<w.heap.size∧w.cell? ⟨G,q,none⟩=some (.slice (slA av cap (el cs q)).1 (slA av cap (el cs q)).2.1 (slA av cap (el cs q)).2.2):=by
 have h2:=h;rcases h.2 with⟨_,h0⟩ | ⟨G,cap',cur,hv,hb,hG,_⟩
 ·omega
 ·injection hv with e1 _ _
  refine⟨G,e1,lt_of_block hG,?_⟩
  have h9:=World.ownsRow.cells h2 (g:=G) (by rw[e1];rfl) q (slV (slA av cap (el cs q))) (by
   have h3:=jjas jje4 (cs.map (slA av cap)) q (by rw[List.length_map];exact hq) 0 (by omega)
   rw[Nat.mul_one,Nat.add_zero]at h3
   rw[h3,jja2 hq];rfl)
  rw[Addr.add_lit,Nat.zero_add]at h9;exact h9
theorem pie_arcs {w:World}{base:Nat}{a:Option Addr}{n cap:Nat}{l:List Ar}(h:OwnArcs w base (.slice a n cap) l){c:Nat × Nat}(hc:c.1+c.2≤l.length)(h0:0<c.2):Arcs w (.slice (slA a cap c).1 (slA a cap c).2.1 (slA a cap c).2.2) (pieA l c):=by
 rcases h.arcs with⟨e,he⟩ | ⟨ad,c2,e,hcell⟩
 ·rw [he]at hc
  simp at hc;omega
 ·injection e with e1 e2 e3
  subst e1;have hl:=pie_len (l:=l) hc;refine .inr ⟨ad.add (c.1*4),cap-c.1,by rw[hl];rfl,fun j hj u v hu=>?_⟩
  rw[hl]at hj;rw[pie_el hj]at hu;have h9:=hcell (c.1+j) (by omega) u v hu;rw[Addr.add_add];rwa [show c.1*4+(j*4+u)=(c.1+j)*4+u by omega]
end Go.Proofs.YtppkiejhhmahcaaGreatDoor.Wt
