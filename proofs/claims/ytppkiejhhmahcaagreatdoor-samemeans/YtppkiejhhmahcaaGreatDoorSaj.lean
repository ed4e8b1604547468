/- Facts, joined. -/
import Derived.Test.YtppkiejhhmahcaaGreatDoorSai
set_option linter.unusedSimpArgs false
set_option linter.unusedVariables false
set_option maxHeartbeats 1600000
set_option maxRecDepth 100000
namespace Go.Proofs.YtppkiejhhmahcaaGreatDoor.Wt
open ChangeShapes WideShapes ChangeAt RowKit Pl
theorem jjal (v:Value)(m:Mc)(w:World)(h:Mach w v m)(hok:okM m)(r:Int)(hr:faultM m=r):
  Calls Tryz.prog 45 #[v] w fun e w'=>e= .returned (.int .i64 r)∧Below w.heap.size w w':=by
 subst hr;obtain⟨z,l⟩:=m
 obtain⟨vs,rfl,hS⟩:=h
 obtain⟨a,cap,rfl⟩:=hS.sl
 have HM:Hid (Mach w (.agg #[.int .i64 z,.slice a l.length cap]) (z,l)):=⟨_,rfl,hS⟩
 have HK:Hid (okM (z,l)):=hok;have hnot:∀ (x:Bool) (w:World),(Op.unary .not (.bool x)).run Tryz.prog w= .ok (.bool (!x)) w:=fun _ _=>rfl
 clear hS hok;simp only;by_cases h60:l.length≤60
 ·have H60:Hid (l.length≤60):=h60
  by_cases h400:arcN l≤400
  ·have hsz:sizeB (z,l)=true:=by simp[sizeB,h60,h400]
   generalize hr:rangeB (z,l)=r;have HR:Hid (rangeB (z,l)=r):=hr;have HF:Hid ((if r=true then(0:Int) else 2)=faultM (z,l)):=by show _=_;unfold faultM;rw[if_pos hsz,hr]
   clear hr hsz;generalize hq:arcN l=q at *;have HQ:Hid (arcN l=q):=hq;clear hq;have h4:¬ (400:Int)<(q:Int):=by omega
   generalize hn:l.length=n at *;have HN:Hid (l.length=n):=hn;clear hn;have h6:¬ (60:Int)<(n:Int):=by omega
   cases r
   all_goals
    go_enter Tryz.func45,Tryz.ntmps45;go_wp2_with (first
     | (go_at_call 88;(with_reducible refine(arcsOf_any _ (z,l) _ (HM.out.later (B:=w.heap.size) (by go_grown) (Nat.le_refl _)) HK.out (by show l.length≤60;rw[HN.out];exact H60.out) q HQ.out).mono ?_);rintro e w1 ⟨rfl,hb⟩;obtain⟨s1,b1,hb1⟩:=boxed hb (by simp);have c0:=b1.cell 0 (v:= .int .i64 z) rfl;have c1:=b1.cell 1 (v:= .slice a n cap) rfl;have HB:Hid (Below w.heap.size w w1):=hb1;clear b1 hb1 hb)
     | (go_at_call 89;(with_reducible refine(isInRange_any _ (z,l) _ (HM.out.later HB.out (Nat.le_refl _)) HK.out (by show l.length≤60;rw[HN.out];exact H60.out) _ HR.out).mono ?_);rintro e w2 ⟨rfl,hb⟩;have HB2:Hid (Below w.heap.size w w2):=HB.out.trans (hb.mono HB.out.size);clear hb))
    go_ret;exact⟨jja8 HF.out,HB2.out⟩
  ·have HF:Hid (faultM (z,l)=1):=jjfd (by simp[sizeB];omega)
   generalize hq:arcN l=q at *;have HQ:Hid (arcN l=q):=hq;clear hq;have h4:(400:Int)<(q:Int):=by omega
   generalize hn:l.length=n at *;have HN:Hid (l.length=n):=hn;clear hn;have h6:¬ (60:Int)<(n:Int):=by omega
   go_enter Tryz.func45,Tryz.ntmps45;go_wp2_with (first
     | (go_at_call 88;(with_reducible refine(arcsOf_any _ (z,l) _ (HM.out.later (B:=w.heap.size) (by go_grown) (Nat.le_refl _)) HK.out (by show l.length≤60;rw[HN.out];exact H60.out) q HQ.out).mono ?_);rintro e w1 ⟨rfl,hb⟩;obtain⟨s1,b1,hb1⟩:=boxed hb (by simp);have HB:Hid (Below w.heap.size w w1):=hb1;clear b1 hb1 hb))
   go_ret;exact⟨jja8 HF.out.symm,HB.out⟩
 ·have HF:Hid (faultM (z,l)=1):=jjfd (by simp[sizeB];omega)
  have h6:(60:Int)<(l.length:Int):=by omega
  go_enter Tryz.func45,Tryz.ntmps45;go_wp2;go_ret;exact⟨jja8 HF.out.symm,by go_grown⟩
def allE (m:Mc)(ws:List (List Int)):Int:=if faultM m≠0 then faultM m else wdsE ws
theorem checkAll_any (v:Value)(m:Mc)(b:Nat)(vws:List Value)(ws:List (List Int))(n:Nat)(w:World)(h:Mach w v m)(hok:okM m)(hw:WdsAt w b vws ws)(hn:ws.length=n)(hn2:n≤10)(r:Int)(hr:allE m ws=r):
  Calls Tryz.prog 79 #[v,.slice (some ⟨b,0,none⟩) n n] w fun e w'=>e= .returned (.int .i64 r)∧Below w.heap.size w w':=by
 obtain⟨z,l⟩:=m
 have HM:Hid (Mach w v (z,l)):=h;obtain⟨vs,rfl,hS⟩:=h
 obtain⟨a,cap,rfl⟩:=hS.sl
 have HCK:Hid (∀ W,Below w.heap.size w W→Calls Tryz.prog 45 #[.agg #[.int .i64 z,.slice a l.length cap]] W fun e w'=>e= .returned (.int .i64 (faultM (z,l)))∧Below W.heap.size W w'):=fun W hW=>jjal _ (z,l) W (HM.out.later hW (Nat.le_refl _)) hok _ rfl
 have HCW:Hid (∀ W,Below w.heap.size w W→Calls Tryz.prog 131 #[.slice (some ⟨b,0,none⟩) n n] W fun e w'=>e= .returned (.int .i64 (wdsE ws))∧W=w'):=fun W hW=>jjf0 b vws ws n W (hw.later hW (Nat.le_refl _)) hn hn2
 unfold allE at hr;clear hS hok hw hn HM;generalize l.length=ln at *;generalize faultM (z,l)=f at *;generalize wdsE ws=e at *;by_cases hf:f=0
 ·rw [if_neg (by simp[hf])]at hr
  subst hr;subst hf;go_enter Tryz.func79,Tryz.ntmps79;go_wp2_with (first
   | (go_at_call 45;(with_reducible refine(HCK.out _ (by go_grown)).mono ?_);rintro e1 w1 ⟨rfl,hb⟩;obtain⟨s1,b1,hb1⟩:=boxed hb (by simp);have HB1:=hidP hb1;clear hb b1 hb1)
   | (go_at_call 131;(with_reducible refine(HCW.out _ HB1.out).mono ?_);rintro e1 w2 ⟨rfl,rfl⟩))
  go_ret;exact⟨rfl,HB1.out⟩
 ·rw [if_pos hf]at hr
  subst hr;go_enter Tryz.func79,Tryz.ntmps79;go_wp2_with (first
   | (go_at_call 45;(with_reducible refine(HCK.out _ (by go_grown)).mono ?_);rintro e1 w1 ⟨rfl,hb⟩;obtain⟨s1,b1,hb1⟩:=boxed hb (by simp);have HB1:=hidP hb1;clear hb b1 hb1))
  go_ret;exact⟨rfl,HB1.out⟩
theorem words2 {w:World}{vx vy:Value}{x y:List Int}{b:Nat}(hb:Blk w b #[vx,vy] 36)(nx:Nums w vx x)(ny:Nums w vy y):WdsAt w b [vx,vy] [x,y]:=by
 refine⟨hb,rfl,fun j hj=>?_⟩
 have:j=0∨j=1:=by simp at hj;omega
 rcases this with rfl | rfl
 ·exact nx
 ·exact ny
theorem cro_short {x y:List Int}(h:croE x y=0):x.length≤12∧y.length≤12:=by
 have hx0:wrdE x=0:=by
  by_cases g:wrdE x=0
  ·exact g
  ·unfold croE at h;rw[if_pos g]at h;exact h
 have hy0:wrdE y=0:=by unfold croE at h;rw[if_neg (by simp[hx0])]at h;exact h
 exact⟨(jjdx hx0).1,(jjdx hy0).1⟩
theorem weighP_any (v vx vy:Value)(m:Mc)(x y:List Int)(w:World)(h:Mach w v m)(hok:okM m)(nx:Nums w vx x)(ny:Nums w vy y):
  Calls Tryz.prog 34 #[v,vx,vy] w fun e w'=>∃ n ec:Int,e= .returned (.tuple #[.int .i64 n,.int .i64 ec])∧WgR (Costs m x y) (wghE2 m x y) n ec∧Below w.heap.size w w':=by
 obtain⟨z,l⟩:=m
 have HM:Hid (Mach w v (z,l)):=h;obtain⟨vs,rfl,hS⟩:=h
 obtain⟨a,cap,rfl⟩:=hS.sl
 obtain⟨ax,cx,hvx,_⟩:=nx.get
 obtain⟨ay,cy,hvy,_⟩:=ny.get
 have HCA:Hid (∀ W b,Below w.heap.size w W→Blk W b #[vx,vy] 36→Calls Tryz.prog 79 #[.agg #[.int .i64 z,.slice a l.length cap],.slice (some ⟨b,0,none⟩) 2 2] W fun e w'=>e= .returned (.int .i64 (wghE2 (z,l) x y))∧Below W.heap.size W w'):=fun W b hW hb=>checkAll_any _ (z,l) b [vx,vy] [x,y] 2 W (HM.out.later hW (Nat.le_refl _)) hok (words2 hb (nx.later hW (Nat.le_refl _)) (ny.later hW (Nat.le_refl _))) rfl (by omega) _ (by unfold allE wghE2;rw[wds_two])
 have HCO:Hid (wghE2 (z,l) x y=0→∀ W,Below w.heap.size w W→Calls Tryz.prog 80 #[.agg #[.int .i64 z,.slice a l.length cap],vx,vy] W fun e w'=>∃ n ec:Int,e= .returned (.tuple #[.int .i64 n,.int .i64 ec])∧WghAns (Costs (z,l) x y) n ec∧Below W.heap.size W w'):=fun h0 W hW=>by
  unfold wghE2 at h0;have hf:faultM (z,l)=0:=by
   by_cases g:faultM (z,l)=0
   ·exact g
   ·rw [if_pos g]at h0;exact h0
  rw[if_neg (by simp[hf])]at h0;obtain⟨q1,q2⟩:=cro_short h0
  exact costP_any _ vx vy (z,l) x y W (HM.out.later hW (Nat.le_refl _)) hf (nx.later hW (Nat.le_refl _)) (ny.later hW (Nat.le_refl _)) q1 q2
 have k1:=Blk.made (w.alloc (.cells #[.int .i64 z,.slice a l.length cap] 24)) #[vx,vy] 36;have k2:Below w.heap.size w ((w.alloc (.cells #[.int .i64 z,.slice a l.length cap] 24)).alloc (.cells #[vx,vy] 36)):=((Below.refl w.heap.size w).alloc (Nat.le_refl _) _).alloc (by simp) _;simp only[World.size_alloc]at k1;have HC0:=hidP (HCA.out _ _ k2 k1);clear hS hok nx ny HM k1 k2 HCA
 generalize l.length=ln at *;unfold WgR;simp only;generalize wghE2 (z,l) x y=r at *;generalize Costs (z,l) x y=P at *;subst hvx;subst hvy;by_cases hr:r=0
 ·subst hr
  have HCO2:=hidP (HCO.out rfl);simp only[if_true];clear HCO;go_enter Tryz.func34,Tryz.ntmps34;go_wp2_with (first
   | (go_at_call 79;(with_reducible refine HC0.out.mono ?_);rintro e1 w1 ⟨rfl,hb⟩;obtain⟨s1,b1,_,hb1⟩:=boxedTwo hb (by simp);have HB1:=hidP hb1;have c0:=b1.cell 0 (v:= .int .i64 z) rfl;have c1:=b1.cell 1 (v:= .slice a ln cap) rfl;clear hb b1 hb1)
   | (go_at_call 80;(with_reducible refine(HCO2.out _ HB1.out).mono ?_);rintro e1 w2 ⟨n,ec,rfl,ha,hb2⟩;have HA:=hidP ha;have HB2:=hidP (HB1.out.trans (hb2.mono HB1.out.size));clear ha hb2))
  exact bodyPost_ret (v:= .tuple #[.int .i64 n,.int .i64 ec]) (by simp[results,Tryz.results34,go_sem, *]) rfl ⟨n,ec,rfl,HA.out,HB2.out⟩
 ·simp only[if_neg hr]
  clear HCO;go_enter Tryz.func34,Tryz.ntmps34;go_wp2_with (first
   | (go_at_call 79;(with_reducible refine HC0.out.mono ?_);rintro e1 w1 ⟨rfl,hb⟩;obtain⟨s1,b1,_,hb1⟩:=boxedTwo hb (by simp);have HB1:=hidP hb1;clear hb b1 hb1))
  exact bodyPost_ret (v:= .tuple #[.int .i64 0,.int .i64 r]) (by simp[results,Tryz.results34,go_sem, *]) rfl ⟨0,r,rfl,⟨rfl,rfl⟩,HB1.out⟩
theorem cost_any (v vx vy:Value)(m:Mc)(x y:List Int)(w:World)(h:Mach w v m)(hok:okM m)(hr:faultM m=0)(hc:CheapL m.2)(nx:Nums w vx x)(ny:Nums w vy y)(ex:wrdE x=0)(ey:wrdE y=0):
  Calls Tryz.prog 17 #[v,vx,vy] w fun e w'=>∃ n:Int,e= .returned (.int .i64 n)∧CstIs (Costs m x y) n∧Below w.heap.size w w':=by
 have HW:Hid (∀ W,Below w.heap.size w W→Calls Tryz.prog 34 #[v,vx,vy] W fun e w'=>∃ n:Int,e= .returned (.tuple #[.int .i64 n,.int .i64 0])∧CstIs (Costs m x y) n∧Below W.heap.size W w'):=fun W hW=>(weighP_any v vx vy m x y W (h.later hW (Nat.le_refl _)) hok (nx.later hW (Nat.le_refl _)) (ny.later hW (Nat.le_refl _))).mono fun e w' ⟨n,ec,he,ha,hb⟩=>by
  have hE:wghE2 m x y=0:=by unfold wghE2;rw[if_neg (by simp[hr])];unfold croE;rw[if_neg (by simp[ex])];exact ey
  unfold WgR at ha;rw[if_pos hE]at ha;obtain⟨h1,h2⟩:=cst_of ha (costs_bound hr hc (jjdx ex).1 (jjdx ey).1)
  subst h1;exact⟨n,he,h2,hb⟩
 obtain⟨z,l⟩:=m
 obtain⟨vs,rfl,hS⟩:=h
 obtain⟨a,cap,rfl⟩:=hS.sl
 obtain⟨ax,cx,rfl,_⟩:=nx.get
 obtain⟨ay,cy,rfl,_⟩:=ny.get
 clear hS hok hr hc nx ny ex ey;generalize (fun n=>CstIs (Costs (z,l) x y) n)=Q at *;go_enter Tryz.func17,Tryz.ntmps17;go_wp2_with (first
  | (go_at_call 34;(with_reducible refine(HW.out _ (by go_grown)).mono ?_);rintro e w1 ⟨n,rfl,hq,hb⟩;have HQ:=hidP hq;have HB1:Hid (Below w.heap.size w w1):=(boxed hb (by simp)).2.2;clear hq hb))
 go_ret;exact⟨n,rfl,HQ.out,HB1.out⟩
def IsRow (k:IntKind)(w:World)(a:Option Addr)(len cap:Nat)(zs:List Int):Prop:=
 (a=none∧len=0∧cap=0∧zs=[])∨
 ∃ x,a=some x∧len≤cap∧cap≤maxLen∧zs.length=cap∧(∀ i,i<zs.length→w.cell? (x.add i)=some (.int k (zs.getD i 0)))∧∀ n ∈ zs,(Lit.int k n).wf=true
theorem row_nums {w:World}{a:Option Addr}{len cap:Nat}{zs:List Int}(h:IsRow .i64 w a len cap zs):Nums w (.slice a len cap) (zs.take len)∧(zs.take len).length=len∧len≤cap:=by
  rcases h with⟨rfl,rfl,rfl,rfl⟩ | ⟨x,rfl,h1,h2,h3,h4,h5⟩
  · exact⟨.inl ⟨rfl,rfl⟩,rfl,Nat.le_refl _⟩
  · have hl:(zs.take len).length=len:=by rw[List.length_take];omega
    refine⟨.inr ⟨x,cap,by rw[hl],fun j hj i u hu=>?_⟩,hl,h1⟩
    match i,hu with
    | 0,hu=>
      simp[encI1]at hu;subst hu;rw[hl]at hj;rw[Nat.mul_one,Nat.add_zero,h4 j (by omega)];have h6:j<zs.length:=by omega
      simp[el,List.getElem?_take,hj,h6,List.getD_eq_getElem?_getD]
    | i+1,hu=>simp [encI1]at hu
theorem jjbb {m:Mc}(h:faultM m=0):okM m:=by
 have h1:=jjae (z:=m.1) (l:=m.2) h;exact small_ok (by omega) (by omega)
theorem row_wf {w:World}{a:Option Addr}{len cap:Nat}{zs:List Int}(h:IsRow .i64 w a len cap zs):∀ n ∈ zs.take len,(Lit.int .i64 n).wf=true:=by
 rcases h with⟨rfl,rfl,rfl,rfl⟩ | ⟨x,rfl,h1,h2,h3,h4,h5⟩
 ·intro n hn;simp at hn
 ·intro n hn
  exact h5 n (List.mem_of_mem_take hn)
theorem arcN_four :∀ l:List St,(∀ s ∈ l,s.2.length≤4)→arcN l≤4*l.length
  | [],_=>by simp[arcN]
  | s::l,h=>by
    have h0:=h s (by simp)
    have:=arcN_four l (fun t ht=>h t (by simp[ht]));simp only[arcN,List.length_cons];omega
theorem made_facts (r:Int × List (Int × Bool × List Ar))(k:Nat)(h0:0<k)(h8:k≤8):faultM (madeM r k false)=0∧CheapL (madeM r k false).2∧(madeM r k false).2.length≤k∧arcN (madeM r k false).2≤4*k∧0<(madeM r k false).2.length:=by
 have hlen:(madeM r k false).2.length=sizeM r k:=jjcj _ _ _;have hn:0<sizeM r k∧sizeM r k≤k:=by unfold sizeM;omega
 refine⟨madeM_right r k h0 h8 false,made_cheap r k false,by omega,?_,by omega⟩
 have:=arcN_four (madeM r k false).2 (fun s hs=>by
  simp only[madeM,statesM,List.mem_map]at hs
  obtain⟨q,_,rfl⟩:=hs
  split
  ·simp
  ·exact stM_few _ _ _)
 omega
end Wt
namespace Pl
section
variable {E:Nat→Nat→Nat→Prop} {s:Nat}
theorem Run.parts {n k c:Nat}(h:Run E s n k c):∃ f g:Nat→Nat,f 0=s∧f n=k∧g n=c∧(∀ i,i≤n→Run E s i (f i) (g i)∧∃ d,Run E (f i) (n-i) k d∧g i+d=c)∧∀ i j,i≤j→j≤n→g i≤g j:=by
  induction h with
  | nil=>exact ⟨fun _=>s,fun _=>0,rfl,rfl,rfl,fun i hi=>⟨by rw[show i=0 by omega];exact .nil,0,by rw[show i=0 by omega];exact .nil,rfl⟩,fun _ _ _ _=>Nat.le_refl _⟩
  | step h e ih=>
    rename_i n k c w j
    obtain⟨f,g,f0,fn,gn,hf,hg⟩:=ih
    refine⟨fun i=>if i≤n then f i else j,fun i=>if i≤n then g i else c+w,by simp[f0],if_neg (by omega),if_neg (by omega),fun i hi=>?_,fun a b hab hb=>?_⟩
    · by_cases q:i≤n
      · simp only[q,if_true]
        obtain⟨h1,d,h2,h3⟩:=hf i q
        refine⟨h1,d+w,?_,by omega⟩
        have:=h2.step e;rwa [show n-i+1=n+1-i by omega]at this
      · obtain rfl:i=n+1:=by omega
        simp only[q,if_false];exact⟨h.step e,0,by rw[Nat.sub_self];exact .nil,by omega⟩
    · simp only
      by_cases qb:b≤n
      · rw[if_pos qb,if_pos (by omega)];exact hg a b hab qb
      · rw[if_neg qb]
        by_cases qa:a≤n
        · rw[if_pos qa]
          have:=hg a n qa (Nat.le_refl _);omega
        · rw[if_neg qa];omega
theorem Run.cheap {N:Nat}(hs:s<N)(hE:∀ k w j,E k w j→j<N):∀ {n k c:Nat},Run E s n k c→∃ m d,m<N∧d≤c∧Run E s m k d:=by
  have key:∀ b n k c,n<b→Run E s n k c→∃ m d,m<N∧d≤c∧Run E s m k d:=by
    intro b;induction b with
    | zero=>intro n k c hn;omega
    | succ b ih=>
      intro n k c hn h;by_cases g:n<N
      · exact⟨n,c,g,Nat.le_refl _,h⟩
      · obtain⟨f,gg,f0,fn,gn,hf,hg⟩:=h.parts
        have hin:∀ i,i≤n→f i<N:=fun i hi=>by
          have h1:=(hf i hi).1;generalize gg i=y2 at h1;generalize f i=y at h1;cases h1 with
          | nil=>exact hs
          | step _ e=>exact hE _ _ _ e
        obtain⟨i,j,hij,hj,e⟩:=twice hin (by omega)
        have h1:=(hf i (by omega)).1;obtain⟨_,d',h2,h3⟩:=hf j hj
        rw[← e]at h2;have h4:=hg i j (by omega) hj;obtain⟨m,d,hm,hd,hr⟩:=ih _ _ _ (by omega) (h1.trans h2)
        exact⟨m,d,hm,by omega,hr⟩
  exact fun {n k c} h=>key (n+1) n k c (by omega) h
theorem Run.head {n k c:Nat}(h:Run E s (n+1) k c):∃ j w c',E s w j∧Run E j n k c'∧c=w+c':=by
  have key:∀ {m k c},Run E s m k c→∀ n,m=n+1→∃ j w c',E s w j∧Run E j n k c'∧c=w+c':=by
    intro m k c h;induction h with
    | nil=>intro n hn;omega
    | step h e ih=>
      rename_i m k c w j
      intro n hn;obtain rfl:m=n:=by omega
      cases m with
      | zero=>
        cases h with
        | nil=>exact ⟨j,w,0,e,.nil,by omega⟩
      | succ m=>
        obtain⟨j',w',c',e',h',rfl⟩:=ih m rfl
        exact⟨j',w',c'+w,e',h'.step e,by omega⟩
  exact key h n rfl
theorem Run.first {j w n k c:Nat}(e:E s w j)(h:Run E j n k c):Run E s (n+1) k (w+c):=by
 have h1:Run E s 1 j (0+w):=Run.nil.step e
 have:=h1.trans h;rwa [show 1+n=n+1 by omega,Nat.zero_add]at this
end
def ArcE (l:List St)(k w j:Nat):Prop:=∃ a ∈ (el l k).2,a.2.2.2=(j:Int)∧w=a.2.2.1.toNat
def FarC (z:Int)(l:List St)(q c:Nat):Prop:=0≤z∧∃ n,Run (ArcE l) z.toNat n q c
def EndC (l:List St)(q c:Nat):Prop:=∃ n p d,Run (ArcE l) q n p d∧p<l.length∧(el l p).1≠1000000001∧c=d+(el l p).1.toNat
structure FarT (z:Int)(l:List St)(cs:List Int):Prop where
 len:cs.length=l.length
 rng:∀ q,q<l.length→0≤el cs q∧el cs q≤noneI
 run:∀ q,q<l.length→el cs q<noneI→FarC z l q (el cs q).toNat
structure EndT (l:List St)(cs:List Int):Prop where
 len:cs.length=l.length
 rng:∀ q,q<l.length→0≤el cs q∧el cs q≤noneI
 run:∀ q,q<l.length→el cs q<noneI→EndC l q (el cs q).toNat
theorem arcE_in {l:List St}{k w j:Nat}(h:ArcE l k w j):k<l.length:=by
 obtain⟨a,ha,_⟩:=h
 exact el_in ha
theorem jjeh {m:Mc}(h:faultM m=0){k w j:Nat}(e:ArcE m.2 k w j):j<m.2.length∧w≤1000000000:=by
 obtain⟨a,ha,e1,rfl⟩:=e
 have h1:=(jjag h).2 _ (jjac (el_in ha));simp only[stB,Bool.and_eq_true,List.all_eq_true]at h1;have h2:=h1.2 _ ha;simp only[arcB,inB,Bool.and_eq_true,decide_eq_true_eq]at h2;omega
def TldQ (P:Nat→Prop)(b:Int):Prop:=(b=noneI∧∀ c,¬ P c)∨∃ c:Nat,LeastP P c∧b=(c:Int)∧c≤100000000000
def LstAns (P:Nat→Nat→Prop)(N:Nat)(vs:List Int)(e:Int):Prop:=(e=0∧vs.length=N∧∀ q,q<N→WghAns (P q) (el vs q) 0)∨(e=4∧vs=[]∧∃ q,q<N∧WghAns (P q) 0 4)
theorem LstAns.one {P:Nat→Nat→Prop}{N:Nat}{vs ws:List Int}{e f:Int}(h:LstAns P N vs e)(k:LstAns P N ws f):vs=ws∧e=f:=by
 rcases h with⟨rfl,h1,h2⟩ | ⟨rfl,rfl,q,hq,h3⟩<;>rcases k with⟨rfl,k1,k2⟩ | ⟨rfl,rfl,p,hp,k3⟩
 ·refine ⟨jjc2 (by omega) fun j hj=>?_,rfl⟩
  exact((h2 j (by omega)).one (k2 j (by omega))).1
 ·exact absurd ((h2 p hp).one k3).2 (by decide)
 ·exact absurd (h3.one (k2 q hq)).2 (by decide)
 ·exact ⟨rfl,rfl⟩
def tldN (b:Int):Int:=if b=noneI then 1000000001 else if 1000000000<b then 0 else b
def tldE (b:Int):Int:=if b=noneI then 0 else if 1000000000<b then 4 else 0
section
variable {E:Nat→Nat→Nat→Prop}
theorem run_one {s w j:Nat}(e:E s w j):Run E s 1 j w:=by
 have h:Run E s (0+1) j (0+w):= .step .nil e;simpa using h
inductive Via (E:Nat→Nat→Nat→Prop)(k:Nat):Nat→Nat→Nat→Prop
 | nil (q:Nat):Via E k q q 0
 | arc {q w p:Nat} (e:E q w p):Via E k q p w
 | step {q w j p c:Nat} (e:E q w j) (hj:j<k) (h:Via E k j p c):Via E k q p (w+c)
theorem Via.mono {k k' q p c:Nat}(h:Via E k q p c)(hk:k≤k'):Via E k' q p c:=by
 induction h with
 | nil q=>exact .nil q
 | arc e=>exact .arc e
 | step e hj _ ih=>exact .step e (by omega) ih
theorem Via.run {k q p c:Nat}(h:Via E k q p c):∃ n,Run E q n p c:=by
  induction h with
  | nil q=>exact ⟨0,.nil⟩
  | arc e=>exact ⟨1,run_one e⟩
  | step e _ _ ih=>
    obtain⟨n,hn⟩:=ih
    exact⟨n+1,hn.first e⟩
theorem run_via {N:Nat}(hE:∀ k w j,E k w j→j<N):∀ {n q p c:Nat},Run E q n p c→Via E N q p c
  | 0,q,p,c,h=>by cases h;exact .nil q
  | n+1,q,p,c,h=>by
    obtain⟨j,w,c',e,h',rfl⟩:=h.head
    exact .step e (hE _ _ _ e) (run_via hE h')
theorem Via.split {k q p c:Nat}(h:Via E (k+1) q p c):Via E k q p c∨∃ c1 c2,Via E k q k c1∧Via E k k p c2∧c1+c2≤c:=by
  induction h with
  | nil q=>exact .inl (.nil q)
  | arc e=>exact .inl (.arc e)
  | @step q w j p c e hj h ih=>
    by_cases hjk:j<k
    · rcases ih with ih | ⟨c1,c2,h1,h2,h3⟩
      · exact .inl (.step e hjk ih)
      · exact .inr ⟨w+c1,c2,.step e hjk h1,h2,by omega⟩
    · obtain rfl:j=k:=by omega
      rcases ih with ih | ⟨c1,c2,h1,h2,h3⟩
      · exact .inr ⟨w,c,.arc e,ih,Nat.le_refl _⟩
      · exact .inr ⟨w,c2,.arc e,h2,by omega⟩
theorem Via.joinAt {k q r p c1 c2:Nat}(h:Via E k q r c1)(hr:r=k)(g:Via E k k p c2):Via E (k+1) q p (c1+c2):=by
 induction h with
 | nil q=>subst hr;rw[Nat.zero_add];exact g.mono (by omega)
 | arc e=>subst hr;exact .step e (by omega) (g.mono (by omega))
 | step e hj _ ih=>rw [Nat.add_assoc];exact .step e (by omega) (ih hr)
theorem Via.join {k q p c1 c2:Nat}(h:Via E k q k c1)(g:Via E k k p c2):Via E (k+1) q p (c1+c2):=h.joinAt rfl g
def EndsE (E:Nat→Nat→Nat→Prop)(k q p:Nat)(x w y:Nat):Prop:=(y<k∧((x=k∧E q w y)∨(x<k∧E x w y)))∨(y=k+1∧((x=k∧E q w p)∨(x<k∧E x w p)))
theorem via_ends {k q0 p:Nat}:∀ {x c:Nat},Via E k x p c→(x=p∧c=0)∨∀ X,(X=k∧x=q0)∨(X<k∧X=x)→∃ n,Run (EndsE E k q0 p) X n (k+1) c:=by
  intro x c h;induction h with
  | nil q=>exact .inl ⟨rfl,rfl⟩
  | @arc x w p e=>
    exact .inr fun X hX=>⟨1,run_one (.inr ⟨rfl,by rcases hX with⟨h1,rfl⟩ | ⟨h1,rfl⟩;exact .inl ⟨h1,e⟩;exact .inr ⟨h1,e⟩⟩)⟩
  | @step x w j p c e hj h ih=>
    refine .inr fun X hX=>?_
    rcases ih with⟨rfl,rfl⟩ | ih
    · exact⟨1,run_one (.inr ⟨rfl,by rcases hX with⟨h1,rfl⟩ | ⟨h1,rfl⟩;exact .inl ⟨h1,e⟩;exact .inr ⟨h1,e⟩⟩)⟩
    · obtain⟨n,hn⟩:=ih j (.inr ⟨hj,rfl⟩)
      exact⟨n+1,hn.first (.inl ⟨hj,by rcases hX with⟨h1,rfl⟩ | ⟨h1,rfl⟩;exact .inl ⟨h1,e⟩;exact .inr ⟨h1,e⟩⟩)⟩
theorem ends_via {k q0 p:Nat}:∀ {n X c:Nat},Run (EndsE E k q0 p) X n (k+1) c→∀ x,(X=k∧x=q0)∨(X<k∧X=x)→Via E k x p c
  | 0,X,c,h,x,hX=>by cases h;omega
  | n+1,X,c,h,x,hX=>by
    obtain⟨j,w,c',e,h',rfl⟩:=h.head
    rcases e with⟨hj,he⟩ | ⟨rfl,he⟩
    · have e':E x w j:=by
        rcases he with⟨h1,he⟩ | ⟨h1,he⟩<;>rcases hX with⟨h2,rfl⟩ | ⟨h2,rfl⟩
        · exact he
        · omega
        · omega
        · exact he
      exact .step e' hj (ends_via h' j (.inr ⟨hj,rfl⟩))
    · have e':E x w p:=by
        rcases he with⟨h1,he⟩ | ⟨h1,he⟩<;>rcases hX with⟨h2,rfl⟩ | ⟨h2,rfl⟩
        · exact he
        · omega
        · omega
        · exact he
      cases n with
      | zero=>cases h';exact .arc e'
      | succ n=>
        obtain⟨j,w',c'',e'',_⟩:=h'.head
        rcases e'' with⟨_,⟨h1,_⟩ | ⟨h1,_⟩⟩ | ⟨_,⟨h1,_⟩ | ⟨h1,_⟩⟩<;>omega
theorem Via.cheap {W k q p c:Nat}(hW:∀ x w y,E x w y→w≤W)(h:Via E k q p c):∃ d,d≤c∧d≤(k+1)*W∧Via E k q p d:=by
 rcases via_ends (q0:=q) h with⟨rfl,rfl⟩ | h1
 ·exact ⟨0,Nat.le_refl _,Nat.zero_le _,.nil _⟩
 ·obtain ⟨n,hn⟩:=h1 k (.inl ⟨rfl,rfl⟩)
  obtain⟨m,d,hm,hd,hr⟩:=hn.cheap (N:=k+2) (by omega) (fun x w y e=>by rcases e with⟨h,_⟩ | ⟨h,_⟩<;>omega)
  have hc:=hr.cost (W:=W) (fun x w y e=>by rcases e with⟨_,⟨_,e⟩ | ⟨_,e⟩⟩ | ⟨_,⟨_,e⟩ | ⟨_,e⟩⟩<;>exact hW _ _ _ e);exact⟨d,hd,Nat.le_trans hc (Nat.mul_le_mul_right _ (by omega)),ends_via hr q (.inl ⟨rfl,rfl⟩)⟩
def LstV (E:Nat→Nat→Nat→Prop)(k q p:Nat)(b:Int):Prop:=(b=noneI∧∀ c,¬ Via E k q p c)∨∃ c:Nat,LeastP (Via E k q p) c∧b=(c:Int)∧c≤(k+1)*1000000000
theorem LstV.one {k q p:Nat}{a b:Int}(h:LstV E k q p a)(g:LstV E k q p b):a=b:=by
 rcases h with⟨rfl,h⟩ | ⟨c,h,rfl,_⟩<;>rcases g with⟨rfl,g⟩ | ⟨d,g,rfl,_⟩
 ·rfl
 ·exact absurd g.1 (h _)
 ·exact absurd h.1 (g _)
 ·rw [h.one g]
theorem LstV.mk {k q p:Nat}{b:Int}(hW:∀ x w y,E x w y→w≤1000000000)(h1:b=noneI∨∃ c:Nat,Via E k q p c∧b=(c:Int))(h2:∀ c,Via E k q p c→b≤(c:Int))(hk:k≤60):LstV E k q p b:=by
 rcases h1 with rfl | ⟨c,hc,rfl⟩
 ·refine .inl ⟨rfl,fun c hc=>?_⟩
  obtain⟨d,_,hd,hv⟩:=hc.cheap hW
  have h3:=h2 d hv;have:(k+1)*1000000000≤61*1000000000:=Nat.mul_le_mul_right _ (by omega);unfold noneI at h3;omega
 ·have hle:∀ d,Via E k q p d→c≤d:=fun d hd=>by have:=h2 d hd;omega
  obtain⟨d,_,hd,hv⟩:=hc.cheap hW
  exact .inr ⟨c,⟨hc,hle⟩,rfl,Nat.le_trans (hle d hv) hd⟩
theorem LstV.le {k q p c:Nat}{b:Int}(h:LstV E k q p b)(hc:Via E k q p c):b≤(c:Int):=by
 rcases h with⟨_,h⟩ | ⟨d,h,rfl,_⟩
 ·exact absurd hc (h c)
 ·have:=h.2 c hc;omega
theorem LstV.has {k q p:Nat}{b:Int}(h:LstV E k q p b):b=noneI∨∃ c:Nat,Via E k q p c∧b=(c:Int):=by
 rcases h with⟨h,_⟩ | ⟨d,h,e,_⟩
 ·exact .inl h
 ·exact .inr ⟨d,h.1,e⟩
theorem LstV.bd {k q p:Nat}{b:Int}(h:LstV E k q p b)(hk:k≤60):0≤b∧(b=noneI∨b≤61000000000):=by
 rcases h with⟨h,_⟩ | ⟨d,h,e,hd⟩
 ·exact ⟨by rw[h];decide,.inl h⟩
 ·have:(k+1)*1000000000≤61*1000000000:=Nat.mul_le_mul_right _ (by omega)
  exact⟨by omega,.inr (by omega)⟩
theorem LstV.step {k q p:Nat}{a b c:Int}(hW:∀ x w y,E x w y→w≤1000000000)(hk:k+1≤60)(ha:LstV E k q p a)(hb:LstV E k q k b)(hc:LstV E k k p c):LstV E (k+1) q p (if b≠noneI∧c≠noneI∧b+c<a then b+c else a):=by
 have ba:=ha.bd (by omega);have bb:=hb.bd (by omega);have bc:=hc.bd (by omega);refine LstV.mk hW ?_ (fun d hd=>?_) hk
 ·by_cases h:b≠noneI∧c≠noneI∧b+c<a
  ·rw [if_pos h]
   rcases hb.has with hb' | ⟨x,hx,rfl⟩
   ·exact absurd hb' h.1
   rcases hc.has with hc' | ⟨y,hy,rfl⟩
   ·exact absurd hc' h.2.1
   exact .inr ⟨x+y,hx.join hy,by omega⟩
  ·rw [if_neg h]
   rcases ha.has with ha' | ⟨x,hx,rfl⟩
   ·exact .inl ha'
   ·exact .inr ⟨x,hx.mono (by omega),rfl⟩
 ·rcases hd.split with h | ⟨c1,c2,h1,h2,h3⟩
  ·have:=ha.le h
   split<;>omega
  ·have e1:=hb.le h1
   have e2:=hc.le h2;by_cases h:b≠noneI∧c≠noneI∧b+c<a
   ·rw [if_pos h];omega
   ·rw [if_neg h]
    rcases hb.has with hb' | ⟨x,hx,hbx⟩
    ·rcases hb with⟨_,hn⟩ | ⟨y,hy,hye,hyb⟩
     ·exact absurd h1 (hn _)
     ·rw [hye]at hb';have:(k+1)*1000000000≤61*1000000000:=Nat.mul_le_mul_right _ (by omega)
      unfold noneI at hb';omega
    rcases hc with⟨_,hn⟩ | ⟨y,hy,hye,hyb⟩
    ·exact absurd h2 (hn _)
    ·have hcn:c≠noneI:=by
      have:(k+1)*1000000000≤61*1000000000:=Nat.mul_le_mul_right _ (by omega);unfold noneI;omega
     have hbn:b≠noneI:=by
      rcases hb with⟨_,hn⟩ | ⟨y',hy',hye',hyb'⟩
      ·exact absurd h1 (hn _)
      ·have:(k+1)*1000000000≤61*1000000000:=Nat.mul_le_mul_right _ (by omega)
       unfold noneI;omega
     have:¬ b+c<a:=fun g=>h ⟨hbn,hcn,g⟩
     omega
theorem LstV.colK {k q:Nat}{b:Int}(hW:∀ x w y,E x w y→w≤1000000000)(hk:k+1≤60)(h:LstV E (k+1) q k b):LstV E k q k b:=by
 refine LstV.mk hW ?_ (fun c hc=>h.le (hc.mono (by omega))) (by omega)
 rcases h.has with h' | ⟨c,hc,rfl⟩
 ·exact .inl h'
 ·refine .inr ⟨c,?_,rfl⟩
  rcases hc.split with g | ⟨c1,c2,h1,h2,h3⟩
  ·exact g
  ·have:=h.le (h1.mono (show k≤k+1 by omega))
   have e:c1=c:=by omega
   rw[← e];exact h1
theorem LstV.rowK {k p:Nat}{b:Int}(hW:∀ x w y,E x w y→w≤1000000000)(hk:k+1≤60)(h:LstV E (k+1) k p b):LstV E k k p b:=by
 refine LstV.mk hW ?_ (fun c hc=>h.le (hc.mono (by omega))) (by omega)
 rcases h.has with h' | ⟨c,hc,rfl⟩
 ·exact .inl h'
 ·refine .inr ⟨c,?_,rfl⟩
  rcases hc.split with g | ⟨c1,c2,h1,h2,h3⟩
  ·exact g
  ·have:=h.le (h2.mono (show k≤k+1 by omega))
   have e:c2=c:=by omega
   rw[← e];exact h2
end
section
variable {α:Type} [Inhabited α]
theorem el_set {l:List α}{q j:Nat}{s:α}(hj:j<l.length):el (l.set q s) j=if q=j then s else el l j:=by
 rw[jjaj (by simpa using hj),jjaj hj,List.getElem_set]
end
end Go.Proofs.YtppkiejhhmahcaaGreatDoor.Pl
