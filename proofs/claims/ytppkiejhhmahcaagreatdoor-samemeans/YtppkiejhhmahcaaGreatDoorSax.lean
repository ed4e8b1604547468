/- Facts, joined. -/
import Derived.Test.YtppkiejhhmahcaaGreatDoorSaw
set_option linter.unusedSimpArgs false
set_option linter.unusedVariables false
set_option maxHeartbeats 6400000
set_option maxRecDepth 100000
namespace Go.Proofs.YtppkiejhhmahcaaGreatDoor.Wt
open ChangeShapes WideShapes ChangeAt RowKit Pl
theorem slThreeJ {v:Value}{n:Nat}(h:∃ a c,v= .slice a n c):∃ a k c,v= .slice a k c:=by obtain⟨a,c,e⟩:=h;exact⟨a,n,c,e⟩
theorem own_capJ {w:World}{base:Nat}{e:TypeId}{s:Nat}{a:Option Addr}{n n' cap:Nat}{xs:List Value}(h:w.ownsRow base e s (.slice a n cap) n' xs):n≤cap:=by
 rcases h.2 with⟨hv,_⟩ | ⟨g,cap',cur,hv,_,_,hnc,_⟩
 ·injection hv with _ h2 h3;omega
 ·injection hv with _ h2 h3;omega
theorem elemArcJ :Tryz.prog.underlying 43=some (.slice (Tryz.prog.elem 43)):=by kernel_rfl
theorem sizeArcJ (w:World):(sizeOf (Tryz.prog.elem 43)).run Tryz.prog w= .ok 4 w:=by kernel_rfl
def slA (a:Option Addr)(cap:Nat)(c:Nat × Nat):Slc:=(a.map (·.add (c.1*4)),c.2,cap-c.1)
theorem run_pieJ (a:Option Addr)(n cap f k:Nat)(hf:f<k)(hk:k≤cap)(W:World):(Instr.sliceAt 43 (.slice a n cap) (some (.int .i64 (f:Int))) (some (.int .i64 (k:Int))) none).run Tryz.prog W= .ok (.slice (slA a cap (f,k-f)).1 (slA a cap (f,k-f)).2.1 (slA a cap (f,k-f)).2.2) W:=by
 rw[run_sliceAt_slice _ _ _ _ _ _ elemArcJ,run_slice_lh _ _ _ _ _ elemArcJ _ _ _ _ (by omega) (by omega) (by omega),sizeArcJ];simp only[Result.andThen_ok,sliced,Int.toNat_natCast];rw[if_neg (by omega)];rfl
theorem run_endJ (a:Option Addr)(n cap f:Nat)(hf:f<n)(hk:n≤cap)(W:World):(Instr.sliceAt 43 (.slice a n cap) (some (.int .i64 (f:Int))) none none).run Tryz.prog W= .ok (.slice (slA a cap (f,n-f)).1 (slA a cap (f,n-f)).2.1 (slA a cap (f,n-f)).2.2) W:=by
 rw[run_sliceAt_slice _ _ _ _ _ _ elemArcJ,run_slice_l _ _ _ _ _ elemArcJ _ _ (by omega) (by omega),sizeArcJ];simp only[Result.andThen_ok,sliced,Int.toNat_natCast];rw[if_neg (by omega)];rfl
theorem infoArcsJ :(Tryz.prog.info? 43).map (fun i=>(i.zero,i.size,i.bytes))=some (some (.slice none 0 0),1,24):=by kernel_rfl
def LstM (w:World)(base:Nat)(v:Value)(a:Option Addr)(cap:Nat)(cs:List (Nat × Nat)):Prop:=w.ownsRow base 43 1 v cs.length ((cs.map (slA a cap)).flatMap encL)
theorem LstM.nil (w:World)(base:Nat)(a:Option Addr)(cap:Nat):LstM w base (.slice none 0 0) a cap []:=World.ownsRow_nil _ _ _ _
theorem LstM.later {w w':World}{base:Nat}{v:Value}{a:Option Addr}{cap:Nat}{cs:List (Nat × Nat)}(h:LstM w base v a cap cs)(hb:Below w.heap.size w w'):LstM w' base v a cap cs:=ownBelow h hb
theorem LstM.drewN' {w:World}{base:Nat}{v:Value}{a:Option Addr}{cap:Nat}{cs:List (Nat × Nat)}(h:LstM w base v a cap cs)(n:Nat):LstM (w.drewN n) base v a cap cs:=h.later ⟨rfl,rfl,rfl,Nat.le_refl _,fun _ _=>rfl⟩
theorem Below.drewNJ {B:Nat}{w w':World}(h:Below B w w')(n:Nat):Below B w (w'.drewN n):=⟨h.os,h.tape,h.output,h.size,h.block⟩
theorem LstM.sl {w:World}{base:Nat}{v:Value}{a:Option Addr}{cap:Nat}{cs:List (Nat × Nat)}(h:LstM w base v a cap cs):∃ b c,v= .slice b cs.length c:=jjbx h
theorem LstM.push {W:World}{base:Nat}{v:Value}{a:Option Addr}{cap:Nat}{cs:List (Nat × Nat)}(h:LstM W base v a cap cs)(c:Nat × Nat)(hl:cs.length≤100000)(hb:base≤W.heap.size):
  ∃ v' w',(Builtin.append_ #[137,137] 137 #[v,.slice (some ⟨W.heap.size,0,none⟩) 1 1]).run Tryz.prog (W.alloc (.cells #[.slice (slA a cap c).1 (slA a cap c).2.1 (slA a cap c).2.2] 43))= .ok v' w'∧LstM w' base v' a cap (cs++[c])∧Below base W w':=by
 obtain⟨i1,hi1,hy0,hy1,hy2⟩:=info_parts infoArcsJ
 obtain⟨v4,w4,r4,ho4,hg4,_⟩:=jjao (P:=Tryz.prog) (w:=W.alloc (.cells (encL (slA a cap c)).toArray 43)) jje4 (by decide) encL_one 137 137 base 43 i1 _ 24 Tryz.underlying137 hi1 hy0 hy1 hy2 rfl _ cs.length ((cs.map (slA a cap)).flatMap encL) (World.ownsRow.alloc h _) _ [slA a cap c] (oneRow (enc:=encL) W (slA a cap c) rfl 43) (by simp;unfold maxLen;omega) (by simp;omega) (by simp;omega)
 refine⟨v4,w4,r4,?_,((Below.refl _ _).alloc hb _).grown hg4 (by simp;omega) (jjcv h)⟩
 unfold LstM;rw[List.length_append,List.map_append,List.flatMap_append];exact ho4
theorem byLabels_any (base:Nat)(a:Option Addr)(n cap:Nat)(l:List Ar)(w:World)(h:OwnArcs w base (.slice a n cap) l)(hn:n=l.length)(hl:n≤100000)(hcl:∀ k,k≤l.length→CutI l k (cutS l k).1 (cutS l k).2):
    Calls Tryz.prog 107 #[.slice a n cap] w fun e w'=>∃ vr,e= .returned vr∧LstM w' w.heap.size vr a cap (cutL l)∧Below w.heap.size w w':=by
  have hcap:=own_capJ h;have HA:=hidP h.arcs;have HCI:Hid (∀ k,k≤n→CutI l k (cutS l k).1 (cutS l k).2):=fun k hk=>hcl k (by omega)
  have HSU:Hid (∀ k,cutS l (k+1)=if labA (el l k)=labA (el l (cutS l k).2) then cutS l k else((cutS l k).1++[((cutS l k).2,k-(cutS l k).2)],k)):=fun k=>rfl
  have HCU:Hid (cutL l=if (cutS l n).2<n then(cutS l n).1++[((cutS l n).2,n-(cutS l n).2)] else(cutS l n).1):=by show _=_;rw[hn];rfl
  have HN:=hidP hn;have L0:=hidP (LstM.nil w w.heap.size a cap);have W0:=hidP (Below.refl w.heap.size w);have HLC:Hid (∀ k,(cutS l k).1.length≤k):=fun k=>by
    induction k with
    | zero=>simp [cutS]
    | succ k ih=>
      unfold cutS;split
      · omega
      · simp;omega
  clear h hcl hn;go_enter Tryz.func107,Tryz.ntmps107;go_wp2;go_loopw [3,4,9] (fun s3 s4 i wr=>∃ (k:Nat) (cs:List (Nat × Nat)) (f:Nat) (vl:Value),k≤n∧vl=s3∧s4= .int .i64 (f:Int)∧i= .int .i64 k∧f≤k∧Hid (cutS l k=(cs,f))∧Hid (LstM wr w.heap.size vl a cap cs)∧Hid (Below w.heap.size w wr)) (fun _ _ i _=>n-(intOf i).toNat)
  case atStart=>exact ⟨0,[],0,_,Nat.zero_le _,rfl,rfl,rfl,Nat.le_refl _,rfl,L0,W0⟩
  case round=>
    clear L0 W0;obtain⟨k,cs,f,vl,hk,rfl,rfl,rfl,hfk,hcs,hL,hW⟩:=hrel
    obtain⟨w1,hw1⟩:∃ w1,w1=wr:=⟨_,rfl⟩
    subst hw1;by_cases hlt:k<n
    · have k0:(0:Int)≤(k:Int):=Int.natCast_nonneg _
      have k1:(k:Int)<(n:Int):=by omega
      have f0:(0:Int)≤(f:Int):=Int.natCast_nonneg _;have f1:(f:Int)<(n:Int):=by omega
      obtain⟨b,off,hab,hbl,c0,c1,c2,c3⟩:=jjeg HA.out (j:=k) (by rw[← HN.out];exact hlt)
      obtain⟨b',off',hab',_,e0,e1,_,_⟩:=jjeg HA.out (j:=f) (by rw[← HN.out];omega)
      rw[hab]at hab';injection hab' with hab'
      injection hab' with hb1 hb2 _
      subst hb1 hb2;subst hab;have c0:=(hW.out.cell (p:=⟨b,off+k*4,none⟩) hbl).trans c0;have c1:=(hW.out.cell (p:=⟨b,off+k*4+1,none⟩) hbl).trans c1;have c2:=(hW.out.cell (p:=⟨b,off+k*4+2,none⟩) hbl).trans c2;have c3:=(hW.out.cell (p:=⟨b,off+k*4+3,none⟩) hbl).trans c3;have e0:=(hW.out.cell (p:=⟨b,off+f*4,none⟩) hbl).trans e0;have e1:=(hW.out.cell (p:=⟨b,off+f*4+1,none⟩) hbl).trans e1
      have HS1:=hidP (HSU.out k);rw[hcs.out]at HS1;have HCL:Hid (cs.length=(cutS l k).1.length):=by show _=_;rw[hcs.out]
      have hcl9:=HLC.out k;have hbw:b<w1.heap.size:=Nat.lt_of_lt_of_le hbl hW.out.size;have hbn:b≠w1.heap.size:=by omega
      have hlf:=(HCI.out k hk).lt;rw[hcs.out]at hlf hcl9;simp only at hcl9 hlf;have HCL:Hid (cs.length≤k):=hcl9;obtain⟨x,hx⟩:∃ x,el l k=x:=⟨_,rfl⟩
      obtain⟨y,hy⟩:∃ y,el l f=y:=⟨_,rfl⟩
      rw[hx]at c0 c1 c2 c3 HS1;rw[hy]at e0 e1 HS1;have hkf:k=f→x=y:=fun e=>by rw[← hx,← hy,e]
      have HKF:=hidP hkf;clear hx hy hkf;obtain⟨x0,x1,x2,x3⟩:=x
      obtain⟨y0,y1,y2,y3⟩:=y
      simp only at c0 c1 c2 c3 e0 e1 HS1;have hA:=(Below.refl w1.heap.size w1).alloc (Nat.le_refl _) (.cells #[.int .i64 x0,.int .i64 x1,.int .i64 x2,.int .i64 x3] 56);have W1:=hidP (hW.out.trans (hA.mono hW.out.size));have L1:=hidP (hL.out.later hA);clear hA hcl9;by_cases q0:x0=y0
      · by_cases q1:x1=y1
        · have HSS:Hid (cutS l (k+1)=(cs,f)):=by show _=_;rw[HS1.out,if_pos (show labA (x0,x1,x2,x3)=labA (y0,y1,y2,y3) by simp[labA,q0,q1])]
          have q0':(x0 !=y0)=false:=by simp[q0]
          have q1':(x1 !=y1)=false:=by simp[q1]
          clear HS1 q0 q1 HKF;go_wp2;go_quiet (fail);have W2:=hidP (Below.drewNJ W1.out nq);have L2:=hidP (L1.out.drewN' nq);go_wp2;go_roundw
          case rel=>exact ⟨k+1,cs,f,_,by omega,rfl,rfl,by go_num,by omega,HSS,L2,W2⟩
          case measure=>simp [intOf];omega
        · have HSD:Hid (cutS l (k+1)=(cs++[(f,k-f)],k)):=by show _=_;rw[HS1.out,if_neg (show ¬ labA (x0,x1,x2,x3)=labA (y0,y1,y2,y3) by simp[labA,q1])]
          have q0':(x0 !=y0)=false:=by simp[q0]
          have q1':(x1 !=y1)=true:=by simp[q1]
          have hfk2:f<k:=by
            rcases Nat.lt_or_eq_of_le hfk with g | g
            · exact g
            · have h9:=HKF.out g.symm;simp only[Prod.mk.injEq]at h9;exact absurd h9.2.1 q1
          have hpie:=run_pieJ (some ⟨b,off,none⟩) n cap f k hfk2 (by omega);clear HS1 q0 q1 HKF;go_wp2;go_quiet (fail);have W2:=hidP (Below.drewNJ W1.out nq);have L2:=hidP (L1.out.drewN' nq);obtain⟨w3,hw3⟩:∃ w3,w3=(w1.alloc (.cells #[.int .i64 x0,.int .i64 x1,.int .i64 x2,.int .i64 x3] 56)).drewN nq:=⟨_,rfl⟩
          rw[← hw3]at W2 L2 ⊢;clear hw3;obtain⟨v4,w4,r4,l4,b4⟩:=L2.out.push (f,k-f) (by have:=HCL.out;omega) W2.out.size
          have HR4:=hidP r4;have L4:=hidP l4;have W4:=hidP (W2.out.trans b4);obtain⟨a4,n4,c4,hv4⟩:=slThreeJ l4.sl
          subst hv4;clear r4 l4 b4 L2;go_wp2_with (first | (at_builtin;refine wpListAppendRun rfl _ _ 137 rfl rfl rfl HR4.out ?_));go_roundw
          case rel=>exact ⟨k+1,cs++[(f,k-f)],k,_,by omega,rfl,rfl,by go_num,by omega,HSD,L4,W4⟩
          case measure=>simp [intOf];omega
      · have HSD:Hid (cutS l (k+1)=(cs++[(f,k-f)],k)):=by show _=_;rw[HS1.out,if_neg (show ¬ labA (x0,x1,x2,x3)=labA (y0,y1,y2,y3) by simp[labA,q0])]
        have q0':(x0 !=y0)=true:=by simp[q0]
        have hfk2:f<k:=by
          rcases Nat.lt_or_eq_of_le hfk with g | g
          · exact g
          · have h9:=HKF.out g.symm;simp only[Prod.mk.injEq]at h9;exact absurd h9.1 q0
        have hpie:=run_pieJ (some ⟨b,off,none⟩) n cap f k hfk2 (by omega);clear HS1 q0 HKF;go_wp2;go_quiet (fail);have W2:=hidP (Below.drewNJ W1.out nq);have L2:=hidP (L1.out.drewN' nq);obtain⟨w3,hw3⟩:∃ w3,w3=(w1.alloc (.cells #[.int .i64 x0,.int .i64 x1,.int .i64 x2,.int .i64 x3] 56)).drewN nq:=⟨_,rfl⟩
        rw[← hw3]at W2 L2 ⊢;clear hw3;obtain⟨v4,w4,r4,l4,b4⟩:=L2.out.push (f,k-f) (by have:=HCL.out;omega) W2.out.size
        have HR4:=hidP r4;have L4:=hidP l4;have W4:=hidP (W2.out.trans b4);obtain⟨a4,n4,c4,hv4⟩:=slThreeJ l4.sl
        subst hv4;clear r4 l4 b4 L2;go_wp2_with (first | (at_builtin;refine wpListAppendRun rfl _ _ 137 rfl rfl rfl HR4.out ?_));go_roundw
        case rel=>exact ⟨k+1,cs++[(f,k-f)],k,_,by omega,rfl,rfl,by go_num,by omega,HSD,L4,W4⟩
        case measure=>simp [intOf];omega
    · have hk1:¬ (k:Int)<(n:Int):=by omega
      obtain rfl:k=n:=by omega
      rw[hcs.out]at HCU;simp only at HCU;have hcl9:=HLC.out k;rw[hcs.out]at hcl9;simp only at hcl9;by_cases hfn:f<k
      · rw[if_pos hfn]at HCU
        have hfn':(f:Int)<(k:Int):=by omega
        have hpie:=run_endJ a k cap f hfn (by omega);obtain⟨v4,w4,r4,l4,b4⟩:=hL.out.push (f,k-f) (by omega) hW.out.size
        have HR4:=hidP r4;have L4:=hidP l4;have W4:=hidP (hW.out.trans b4);obtain⟨a4,n4,c4,hv4⟩:=slThreeJ l4.sl
        subst hv4;clear r4 l4 b4 hcl9;go_wp2_with (first | (at_builtin;refine wpListAppendRun rfl _ _ 137 rfl rfl rfl HR4.out ?_));go_ret;exact⟨_,rfl,by rw[HCU.out];exact L4.out,W4.out⟩
      · rw[if_neg hfn]at HCU
        have hfn':¬ (f:Int)<(k:Int):=by omega
        obtain⟨a4,n4,c4,hv4⟩:=slThreeJ hL.out.sl
        subst hv4;clear hcl9;go_wp2;go_ret;exact⟨_,rfl,by rw[HCU.out];exact hL.out,hW.out⟩
end Wt
namespace Pl
def lsU (g:List Ar)(k:Nat):Int:=mnL ((el g 0).2.2.1::(g.take k).map fun a=>a.2.2.1)
theorem lsU_zero {g:List Ar}(h:(el g 0).2.2.1<noneI):lsU g 0=(el g 0).2.2.1:=by
 unfold lsU;simp only[List.take_zero,List.map_nil,mnL];rw[if_pos h]
theorem lsU_succ {g:List Ar}{k:Nat}(hk:k<g.length)(h:(el g k).2.2.1≤noneI):lsU g (k+1)=if (el g k).2.2.1<lsU g k then(el g k).2.2.1 else lsU g k:=by
 unfold lsU;rw[jja0 hk,List.map_append];exact mnL_snoc ((el g 0).2.2.1::(g.take k).map fun a=>a.2.2.1) _ h
theorem lsU_all {g:List Ar}(h0:0<g.length):lsU g g.length=mnL (g.map fun a=>a.2.2.1):=by
 unfold lsU;rw[List.take_length];simp only[mnL];have h1:=jjci (List.mem_map.2 ⟨el g 0,jjac h0,rfl⟩:(el g 0).2.2.1 ∈ g.map fun a=>a.2.2.1);rw[if_neg (by omega)]
theorem tgU_ne {g:List Ar}{c:Int}{k:Nat}(h:0<k):tgU g c k≠[]:=fun e=>by
 have h1:((el g 0).2.2.2,(el g 0).2.2.1-c) ∈ tgU g c k:=mem_tgU.2 ⟨0,h,.inl rfl,rfl⟩;rw[e]at h1;cases h1
end Pl
namespace Wt
open ChangeShapes WideShapes ChangeAt RowKit Pl
theorem res_tog (tm:Array Value)(W:World)(R:Nat)(v x0 x1 x2 x3:Value)(hB:Blk W R #[x0,x1,x2,x3] 56)(h2:tm.getD 2 undef= .pointer (some ⟨R,0,none⟩))(h3:tm.getD 3 undef=v):(results Tryz.f109 tm).run Tryz.prog W= .ok (.tuple #[.agg #[x0,x1,x2,x3],v]) W:=by
 have c0:=hB.cell 0 (v:=x0) rfl;have c1:=hB.cell 1 (v:=x1) rfl;have c2:=hB.cell 2 (v:=x2) rfl;have c3:=hB.cell 3 (v:=x3) rfl;simp only[Array.getD_eq_getD_getElem?]at h2 h3;simp[results,Tryz.results109,go_sem,h2,h3,c0,c1,c2,c3]
def HeldTg (b o:Nat)(x0 x1:Int)(w:World):Prop:=w.cell? ⟨b,o,none⟩=some (.int .i64 x0)∧w.cell? ⟨b,o+1,none⟩=some (.int .i64 x1)
theorem Below.drewNT {B:Nat}{w w':World}(h:Below B w w')(n:Nat):Below B w (w'.drewN n):=⟨h.os,h.tape,h.output,h.size,h.block⟩
theorem slThreeT {v:Value}{n:Nat}(h:∃ a c,v= .slice a n c):∃ a k c,v= .slice a k c:=by obtain⟨a,c,e⟩:=h;exact⟨a,n,c,e⟩
theorem together_any (a:Option Addr)(n cap:Nat)(g:List Ar)(w:World)(h:Arcs w (.slice a n cap) g)(hn:n=g.length)(hg:0<n)(hl:n≤100000)(hwt:∀ a ∈ g,0≤a.2.2.1∧a.2.2.1≤2000000000000)(c:Int)(hc:mnL (g.map fun a=>a.2.2.1)=c)(x0 x1:Int)(hx0:(el g 0).1=x0)(hx1:(el g 0).2.1=x1):
  Calls Tryz.prog 109 #[.slice a n cap] w fun e w'=>∃ vs,e= .returned (.tuple #[.agg #[.int .i64 x0,.int .i64 x1,.int .i64 c,.int .i64 0],vs])∧OwnP w' w.heap.size vs (tgU g c n)∧Below w.heap.size w w':=by
 have HA:=hidP h;have HWT:Hid (∀ k,k<n→0≤(el g k).2.2.1∧(el g k).2.2.1≤2000000000000):=fun k hk=>hwt _ (jjac (by omega))
 have HLS:Hid (∀ k,k<n→lsU g (k+1)=if (el g k).2.2.1<lsU g k then(el g k).2.2.1 else lsU g k):=fun k hk=>lsU_succ (by omega) (by have:=HWT.out k hk;unfold noneI;omega)
 have HLA:Hid (lsU g n=c):=by show _=_;rw[hn,lsU_all (by omega)];exact hc
 have HTU:Hid (∀ k,tgU g c (k+1)=tgU g c k++(if k=0∨(el g k).2.2.2≠(el g (k-1)).2.2.2 then[((el g k).2.2.2,(el g k).2.2.1-c)] else[])):=tgU_succ g c;have HTL:Hid (∀ k,(tgU g c k).length≤k):=tgU_len g c;have hw0:=HWT.out 0 hg;have HL0:Hid (lsU g 0=(el g 0).2.2.1):=lsU_zero (by unfold noneI;omega);have HCB:Hid (-1000000000000000≤c∧c≤1000000000000000):=by
  have h1:=jjci (List.mem_map.2 ⟨el g 0,jjac (by omega),rfl⟩:(el g 0).2.2.1 ∈ g.map fun a=>a.2.2.1);rcases jjce (g.map fun a=>a.2.2.1)with e | e
  ·rw [e]at h1;unfold noneI at h1;omega
  ·obtain ⟨a,ha,e2⟩:=List.mem_map.1 e
   have h2:=hwt a ha;constructor<;>omega
 obtain⟨b,off,hab,hbl,d0,d1,d2,d3⟩:=jjeg h (j:=0) (by omega)
 subst hab;rw[Nat.zero_mul,Nat.add_zero]at d0 d1 d2 d3;rw[hx0]at d0;rw[hx1]at d1;have HAT:Hid (∀ k,k<n→w.cell? ⟨b,off+k*4,none⟩=some (.int .i64 (el g k).1)∧w.cell? ⟨b,off+k*4+1,none⟩=some (.int .i64 (el g k).2.1)∧w.cell? ⟨b,off+k*4+2,none⟩=some (.int .i64 (el g k).2.2.1)∧w.cell? ⟨b,off+k*4+3,none⟩=some (.int .i64 (el g k).2.2.2)):=fun k hk=>by
  obtain⟨b',off',hab',_,e0,e1,e2,e3⟩:=jjeg HA.out (j:=k) (by omega)
  injection hab' with hab'
  injection hab' with hb1 hb2 _
  subst hb1 hb2;exact⟨e0,e1,e2,e3⟩
 obtain⟨z0,hz0⟩:∃ z0,(el g 0).2.2.1=z0:=⟨_,rfl⟩
 rw[hz0]at d2 HL0 hw0;have HZ0:=hidP hz0;have hA0:=(Below.refl w.heap.size w).alloc (Nat.le_refl _) (.cells #[.int .i64 0,.int .i64 0,.int .i64 0,.int .i64 0] 56);have W0:=hidP hA0;have R0:=hidP (Blk.made w #[.int .i64 0,.int .i64 0,.int .i64 0,.int .i64 0] 56);have D0:=hidP d0;have D1:=hidP d1;have d2:=(hA0.cell (p:=⟨b,off+2,none⟩) hbl).trans d2;have n0:(0:Int)<(n:Int):=by omega
 have hbR:b≠w.heap.size:=by omega
 clear hA0 h hwt hn hc hz0 hx0 hx1 d0 d1 d3 HA;go_enter Tryz.func109,Tryz.ntmps109;go_wp2;clear d2;go_loopw [4,16] (fun s4 i wr=>∃ (k:Nat) (y:Int),k≤n∧s4= .int .i64 y∧i= .int .i64 k∧Hid (lsU g k=y)∧Hid (Below w.heap.size w wr)∧Hid (Blk wr w.heap.size #[.int .i64 0,.int .i64 0,.int .i64 0,.int .i64 0] 56)) (fun _ i _=>n-(intOf i).toNat)
 case atStart=>exact ⟨0,z0,Nat.zero_le _,rfl,rfl,HL0,W0,R0⟩
 case round=>
  clear W0 R0 HL0;obtain⟨k,y,hk,rfl,rfl,hy,hW,hR⟩:=hrel
  obtain⟨w1,hw1⟩:∃ w1,w1=wr:=⟨_,rfl⟩
  subst hw1;by_cases hlt:k<n
  ·have k0:(0:Int)≤(k:Int):=Int.natCast_nonneg _
   have k1:(k:Int)<(n:Int):=by omega
   obtain⟨c0,c1,c2,c3⟩:=HAT.out k hlt
   have c0:=(hW.out.cell (p:=⟨b,off+k*4,none⟩) hbl).trans c0;have c1:=(hW.out.cell (p:=⟨b,off+k*4+1,none⟩) hbl).trans c1;have c2:=(hW.out.cell (p:=⟨b,off+k*4+2,none⟩) hbl).trans c2;have c3:=(hW.out.cell (p:=⟨b,off+k*4+3,none⟩) hbl).trans c3;have HS:=hidP (HLS.out k hlt);rw[hy.out]at HS;obtain⟨x,hx⟩:∃ x,el g k=x:=⟨_,rfl⟩
   rw[hx]at c0 c1 c2 c3 HS;clear hx;obtain⟨q0,q1,q2,q3⟩:=x
   simp only at c0 c1 c2 c3 HS;have hA:=(Below.refl w1.heap.size w1).alloc (Nat.le_refl _) (.cells #[.int .i64 q0,.int .i64 q1,.int .i64 q2,.int .i64 q3] 56);have W1:=hidP (hW.out.trans (hA.mono hW.out.size));have R1:=hidP (hR.out.alloc (.cells #[.int .i64 q0,.int .i64 q1,.int .i64 q2,.int .i64 q3] 56));have hbw:b<w1.heap.size:=Nat.lt_of_lt_of_le hbl hW.out.size;clear hA;by_cases e1:q2<y
   ·rw [if_pos e1]at HS
    go_wp2;go_roundw
    case rel=>exact ⟨k+1,q2,by omega,congrArg _ (by omega),by go_num,HS,W1,R1⟩
    case measure=>simp [intOf];omega
   ·rw [if_neg e1]at HS
    go_wp2;go_roundw
    case rel=>exact ⟨k+1,y,by omega,congrArg _ (by omega),by go_num,HS,W1,R1⟩
    case measure=>simp [intOf];omega
  ·have hk1:¬ (k:Int)<(n:Int):=by omega
   obtain rfl:k=n:=by omega
   obtain rfl:y=c:=hy.out.symm.trans HLA.out
   clear hlt hk HLS HLA hy;have hcb: -1000000000000000≤y∧y≤1000000000000000:=HCB.out;have T0:=hidP (OwnP.nil w1 (w.heap.size+1));go_wp2;go_loopw [7,27] (fun s7 i wr=>∃ (j:Nat) (vt:Value),j≤k∧vt=s7∧i= .int .i64 j∧Hid (OwnP wr (w.heap.size+1) vt (tgU g y j))∧Hid (Below w.heap.size w wr)∧Hid (Blk wr w.heap.size #[.int .i64 0,.int .i64 0,.int .i64 0,.int .i64 0] 56)) (fun _ i _=>k-(intOf i).toNat)
   case atStart=>exact ⟨0,_,Nat.zero_le _,rfl,rfl,T0,hW,hR⟩
   case round=>
    clear T0 hW hR;obtain⟨j,vt,hj,rfl,rfl,hT,hW,hR⟩:=hrel
    obtain⟨w1,hw1⟩:∃ w1,w1=wr:=⟨_,rfl⟩
    subst hw1;by_cases hlt:j<k
    ·have j0:(0:Int)≤(j:Int):=Int.natCast_nonneg _
     have j1:(j:Int)<(k:Int):=by omega
     obtain⟨c0,c1,c2,c3⟩:=HAT.out j hlt
     have c0:=(hW.out.cell (p:=⟨b,off+j*4,none⟩) hbl).trans c0;have c1:=(hW.out.cell (p:=⟨b,off+j*4+1,none⟩) hbl).trans c1;have c2:=(hW.out.cell (p:=⟨b,off+j*4+2,none⟩) hbl).trans c2;have c3:=(hW.out.cell (p:=⟨b,off+j*4+3,none⟩) hbl).trans c3;have HS:=hidP (HTU.out j);have hwj:=HWT.out j hlt;have hTl:=HTL.out j;obtain⟨x,hx⟩:∃ x,el g j=x:=⟨_,rfl⟩
     have HXJ:=hidP hx;rw[hx]at c0 c1 c2 c3 HS hwj;clear hx;obtain⟨q0,q1,q2,q3⟩:=x
     simp only at c0 c1 c2 c3 HS hwj;have hA:=(Below.refl w1.heap.size w1).alloc (Nat.le_refl _) (.cells #[.int .i64 q0,.int .i64 q1,.int .i64 q2,.int .i64 q3] 56);have W1:=hidP (hW.out.trans (hA.mono hW.out.size));have R1:=hidP (hR.out.alloc (.cells #[.int .i64 q0,.int .i64 q1,.int .i64 q2,.int .i64 q3] 56));have T1:=hidP (hT.out.later hA)
     have hbw:b<w1.heap.size:=Nat.lt_of_lt_of_le hbl hW.out.size;have K1:=hidP (Blk.made w1 #[.int .i64 q0,.int .i64 q1,.int .i64 q2,.int .i64 q3] 56);have hRl:=R1.out.lt;have hRs:w.heap.size+1≤w1.heap.size:=hR.out.lt;have hwr:IntKind.i64.wrap (q2-y)=q2-y:=wrapI (by omega) (by omega);clear hA hT hW hR
     obtain⟨w2,hw2⟩:∃ w2,w2=w1.alloc (.cells #[.int .i64 q0,.int .i64 q1,.int .i64 q2,.int .i64 q3] 56):=⟨_,rfl⟩
     have HW2:=hidP hw2;rw[← hw2]at W1 R1 T1 K1 hRl;clear hw2;by_cases e0:j=0
     ·have e0':((j:Int)==0)=true:=by simp[e0]
      have HS2:Hid (tgU g y (j+1)=tgU g y j++[(q3,q2-y)]):=by show _=_;rw[HS.out,if_pos (.inl e0)]
      clear HS e0;go_wp2;go_quiet (fail);rw[← HW2.out];have T2:=hidP (T1.out.later ⟨rfl,rfl,rfl,Nat.le_refl _,fun _ _=>rfl⟩:OwnP (w2.drewN nq) _ _ _);have W2:=hidP (Below.drewNT W1.out nq);have R2:=hidP (R1.out.drewN nq);have K2:=hidP (K1.out.drewN nq);have hs2:(w2.drewN nq).heap.size=w2.heap.size:=rfl;obtain⟨w3,hw3⟩:∃ w3,w3=w2.drewN nq:=⟨_,rfl⟩
      rw[← hw3]at T2 W2 R2 K2 hs2 ⊢;clear hw3 T1 W1 R1 K1;have k2:=K2.out.cell 2 (v:= .int .i64 q2) rfl;have k3:=K2.out.cell 3 (v:= .int .i64 q3) rfl;obtain⟨v4,w4,r4,o4,b4,g4⟩:=T2.out.push (q3,q2-y) (by omega) (by omega)
      have R4:=hidP ((R2.out.alloc (.cells (encP (q3,q2-y)).toArray 92)).grown g4 (jjak (T2.out.later ((Below.refl _ _).alloc (Nat.le_refl _) (.cells (encP (q3,q2-y)).toArray 92))) (R2.out.alloc (.cells (encP (q3,q2-y)).toArray 92)) (by decide)));have W4:=hidP (W2.out.trans (b4.mono (by omega)));have T4:=hidP o4;simp only[encP]at r4;have HR4:=hidP r4;obtain⟨a4,n4,c4,hv4⟩:=slThreeT o4.sl
      subst hv4;clear r4 o4 b4 g4 T2 R2 K2 hs2;go_wp2_with (first | (at_builtin;refine wpListAppendRun rfl _ _ 94 rfl rfl rfl HR4.out ?_));go_roundw
      case rel=>exact ⟨j+1,_,by omega,rfl,by go_num,by rw[HS2.out];exact T4,W4,R4⟩
      case measure=>simp [intOf];omega
     ·have e0':((j:Int)==0)=false:=by simp;omega
      obtain⟨_,_,_,p3⟩:=HAT.out (j-1) (by omega)
      have p3:=(W1.out.cell (p:=⟨b,off+(j-1)*4+3,none⟩) hbl).trans p3;obtain⟨t,ht⟩:∃ t,(el g (j-1)).2.2.2=t:=⟨_,rfl⟩
      rw[ht]at p3 HS;clear ht;have hj1:IntKind.i64.wrap ((j:Int)-1)=(j:Int)-1:=wrapI (by omega) (by omega);have hj2:(0:Int)≤(j:Int)-1:=by omega
      have hj3:(j:Int)-1<(k:Int):=by omega
      have hj4:((j:Int)-1).toNat=j-1:=by omega
      rw[HW2.out]at p3;by_cases e1:q3=t
      ·have e1':(q3 !=t)=false:=by simp[e1]
       have HS2:Hid (tgU g y (j+1)=tgU g y j):=by show _=_;rw[HS.out,if_neg (fun h=>h.elim e0 (fun h=>h e1)),List.append_nil]
       clear HS e0 e1;go_wp2;go_quiet (fail);rw[← HW2.out];have T2:=hidP (T1.out.later ⟨rfl,rfl,rfl,Nat.le_refl _,fun _ _=>rfl⟩:OwnP (w2.drewN nq) _ _ _);have W2:=hidP (Below.drewNT W1.out nq);have R2:=hidP (R1.out.drewN nq);go_wp2;go_roundw
       case rel=>exact ⟨j+1,_,by omega,rfl,by go_num,by rw[HS2.out];exact T2,W2,R2⟩
       case measure=>simp [intOf];omega
      ·have e1':(q3 !=t)=true:=by simp[e1]
       have HS2:Hid (tgU g y (j+1)=tgU g y j++[(q3,q2-y)]):=by show _=_;rw[HS.out,if_pos (.inr e1)]
       clear HS e0 e1;go_wp2;go_quiet (fail);rw[← HW2.out];have T2:=hidP (T1.out.later ⟨rfl,rfl,rfl,Nat.le_refl _,fun _ _=>rfl⟩:OwnP (w2.drewN nq) _ _ _);have W2:=hidP (Below.drewNT W1.out nq);have R2:=hidP (R1.out.drewN nq);have K2:=hidP (K1.out.drewN nq);have hs2:(w2.drewN nq).heap.size=w2.heap.size:=rfl;obtain⟨w3,hw3⟩:∃ w3,w3=w2.drewN nq:=⟨_,rfl⟩
       rw[← hw3]at T2 W2 R2 K2 hs2 ⊢;clear hw3 T1 W1 R1 K1;have k2:=K2.out.cell 2 (v:= .int .i64 q2) rfl;have k3:=K2.out.cell 3 (v:= .int .i64 q3) rfl;obtain⟨v4,w4,r4,o4,b4,g4⟩:=T2.out.push (q3,q2-y) (by omega) (by omega)
       have R4:=hidP ((R2.out.alloc (.cells (encP (q3,q2-y)).toArray 92)).grown g4 (jjak (T2.out.later ((Below.refl _ _).alloc (Nat.le_refl _) (.cells (encP (q3,q2-y)).toArray 92))) (R2.out.alloc (.cells (encP (q3,q2-y)).toArray 92)) (by decide)));have W4:=hidP (W2.out.trans (b4.mono (by omega)));have T4:=hidP o4;simp only[encP]at r4;have HR4:=hidP r4;obtain⟨a4,n4,c4,hv4⟩:=slThreeT o4.sl
       subst hv4;clear r4 o4 b4 g4 T2 R2 K2 hs2;go_wp2_with (first | (at_builtin;refine wpListAppendRun rfl _ _ 94 rfl rfl rfl HR4.out ?_));go_roundw
       case rel=>exact ⟨j+1,_,by omega,rfl,by go_num,by rw[HS2.out];exact T4,W4,R4⟩
       case measure=>simp [intOf];omega
    ·have hk1:¬ (j:Int)<(k:Int):=by omega
     obtain rfl:j=k:=by omega
     obtain⟨at2,nt2,ct2,hvt⟩:=slThreeT hT.out.sl
     subst hvt;have g0:=hR.out.cell 0 (v:= .int .i64 0) rfl;have g1:=hR.out.cell 1 (v:= .int .i64 0) rfl;have g2:=hR.out.cell 2 (v:= .int .i64 0) rfl;have g3:=hR.out.cell 3 (v:= .int .i64 0) rfl;have f0:=hR.out.fz 0;have f1:=hR.out.fz 1;have f2:=hR.out.fz 2;have f3:=hR.out.fz 3;have u0:=(hW.out.cell (p:=⟨b,off,none⟩) hbl).trans D0.out;have u1:=(hW.out.cell (p:=⟨b,off+1,none⟩) hbl).trans D1.out
     have HS0:HeldTg b off x0 x1 w1.drew:=⟨u0,u1⟩
     obtain⟨w5,hw5⟩:∃ w5,w5=((((w1.setCell ⟨w.heap.size,0,none⟩ (.int .i64 x0)).setCell ⟨w.heap.size,1,none⟩ (.int .i64 x1)).setCell ⟨w.heap.size,2,none⟩ (.int .i64 y)).setCell ⟨w.heap.size,3,none⟩ (.int .i64 0)).drew:=⟨_,rfl⟩
     have hB5:Blk w5 w.heap.size #[.int .i64 x0,.int .i64 x1,.int .i64 y,.int .i64 0] 56:=by rw[hw5];exact((((hR.out.set 0 _).set 1 _).set 2 _).set 3 _).drew
     have hW5:Below w.heap.size w w5:=by rw[hw5];exact((((hW.out.setCell (p:=⟨w.heap.size,0,none⟩) (Nat.le_refl _) _).setCell (p:=⟨w.heap.size,1,none⟩) (Nat.le_refl _) _).setCell (p:=⟨w.heap.size,2,none⟩) (Nat.le_refl _) _).setCell (p:=⟨w.heap.size,3,none⟩) (Nat.le_refl _) _).drew
     have hT5:OwnP w5 (w.heap.size+1) (.slice at2 nt2 ct2) (tgU g y j):=by
      rw[hw5];have s0:=hT.out;have r0:=hR.out;have s1:OwnP _ _ _ _:=World.ownsRow.kept s0 (gSet _ w.heap.size 0 (.int .i64 x0)) (.inr (Ne.symm (jjak s0 r0 (by decide))));have r1:=r0.set 0 (.int .i64 x0);have s2:OwnP _ _ _ _:=World.ownsRow.kept s1 (gSet _ w.heap.size 1 (.int .i64 x1)) (.inr (Ne.symm (jjak s1 r1 (by decide))));have r2:=r1.set 1 (.int .i64 x1)
      have s3:OwnP _ _ _ _:=World.ownsRow.kept s2 (gSet _ w.heap.size 2 (.int .i64 y)) (.inr (Ne.symm (jjak s2 r2 (by decide))));have r3:=r2.set 2 (.int .i64 y);have s4:OwnP _ _ _ _:=World.ownsRow.kept s3 (gSet _ w.heap.size 3 (.int .i64 0)) (.inr (Ne.symm (jjak s3 r3 (by decide))));exact s4.later ((Below.refl _ _).drew)
     have v0:HeldTg b off x0 x1 w5:=⟨(hW5.cell (p:=⟨b,off,none⟩) hbl).trans D0.out,(hW5.cell (p:=⟨b,off+1,none⟩) hbl).trans D1.out⟩
     have HB5:=hidP hB5;have HW5:=hidP hW5;have HT5:=hidP hT5;have HE5:=hidP hw5;clear hB5 hW5 hT5 hw5;go_wp2;refine jjaf (HeldTg b off x0 x1) 1000 (by kernel_rfl) ?_
     refine jjaa (v:=?v0_1) aZ0 ?y0_1 HS0 ?r0_1
     case y0_1=>intro wx hx;obtain⟨u0,u1⟩:=hx;go_simp;try (with_reducible rfl)
     simp only[Act.put,sA,sB,sC];refine jjaa (v:=?v1_2) aZ1 ?y1_2 HS0 ?r1_2
     case y1_2=>intro wx hx;obtain⟨u0,u1⟩:=hx;go_simp;try (with_reducible rfl)
     simp only[Act.put,sA,sB,sC];refine jjaa (v:=?v2_3) aZ2 ?y2_3 HS0 ?r2_3
     case y2_3=>intro wx hx;obtain⟨u0,u1⟩:=hx;go_simp;try (with_reducible rfl)
     simp only[Act.put,sA,sB,sC];refine jjaa (v:=?v3_4) aZ3 ?y3_4 HS0 ?r3_4
     case y3_4=>intro wx hx;obtain⟨u0,u1⟩:=hx;go_simp;try (with_reducible rfl)
     simp only[Act.put,sA,sB,sC];refine jjaa (v:=?v4_5) aZ4 ?y4_5 HS0 ?r4_5
     case y4_5=>intro wx hx;obtain⟨u0,u1⟩:=hx;go_simp;try (with_reducible rfl)
     simp only[Act.put,sA,sB,sC];refine jjaa (v:=?v5_6) aZ5 ?y5_6 HS0 ?r5_6
     case y5_6=>intro wx hx;obtain⟨u0,u1⟩:=hx;go_simp;try (with_reducible rfl)
     simp only[Act.put,sA,sB,sC];refine jjaa (v:=?v6_7) aZ6 ?y6_7 HS0 ?r6_7
     case y6_7=>intro wx hx;obtain⟨u0,u1⟩:=hx;go_simp;try (with_reducible rfl)
     simp only[Act.put,sA,sB,sC];refine jjaa (v:=?v7_8) aZ7 ?y7_8 HS0 ?r7_8
     case y7_8=>intro wx hx;obtain⟨u0,u1⟩:=hx;go_simp;try (with_reducible rfl)
     simp only[Act.put,sA,sB,sC];refine jjaa (v:=?v8_9) aZ8 ?y8_9 HS0 ?r8_9
     case y8_9=>intro wx hx;obtain⟨u0,u1⟩:=hx;go_simp;try (with_reducible rfl)
     simp only[Act.put,sA,sB,sC];refine jjaa (v:=?v9_10) aZ9 ?y9_10 HS0 ?r9_10
     case y9_10=>intro wx hx;obtain⟨u0,u1⟩:=hx;go_simp;try (with_reducible rfl)
     simp only[Act.put,sA,sB,sC];refine jjaa (v:=?v10_11) aZ10 ?y10_11 HS0 ?r10_11
     case y10_11=>intro wx hx;obtain⟨u0,u1⟩:=hx;go_simp;try (with_reducible rfl)
     simp only[Act.put,sA,sB,sC];refine jjab aZ11 (fun K hK=>?_)
     go_simp;rw[← HE5.out];refine hK _ _ (.inr v0) ?_
     try simp only[Act.put,sA,sB,sC]
     refine jjab aZ12 (fun K hK=>?_)
     go_simp;refine hK _ _ (.inr v0) (jjad (by kernel_rfl) (NoPanic.normal ?_))
     try simp only[Act.put,sA,sB,sC]
     go_wp2;exact bodyPost_ret (res_tog _ _ w.heap.size _ _ _ _ _ HB5.out rfl rfl) rfl ⟨_,rfl,HT5.out.mono (by omega),HW5.out⟩
end Go.Proofs.YtppkiejhhmahcaaGreatDoor.Wt
