/- Facts, joined. -/
import Derived.Test.YtppkiejhhmahcaaGreatDoorSaN
set_option linter.unusedSimpArgs false
set_option linter.unusedVariables false
set_option maxHeartbeats 3200000
set_option maxRecDepth 100000
namespace Go.Proofs.YtppkiejhhmahcaaGreatDoor.Dw
open ChangeShapes WideShapes ChangeAt RowKit Pl Wt
theorem below_undrewD {B:Nat}{w w':World}(h:Below B w.drew w'):Below B w w':=⟨h.os,h.tape,h.output,h.size,h.block⟩
theorem arcs_of {l:List St}{j:Nat}(h:j<l.length):(el l j).2.length≤arcN l:=by
 have h1:=jjbf h;have h2:arcN (l.take (j+1))≤arcN l:=by
  conv=>rhs;rw[← List.take_append_drop (j+1) l,jjbd]
  omega
 omega
theorem ends_any (z:Int)(vs:Value)(l:List St)(w:World)(h:Mach w (.agg #[.int .i64 z,vs]) (z,l))(hr:faultM (z,l)=0):
  Calls Tryz.prog 144 #[.agg #[.int .i64 z,vs]] w fun e w'=>∃ v',e= .returned v'∧Row 2 encD w' v' (endW l l.length)∧Below w.heap.size w w':=by
 obtain⟨i1,hi1,hy0,hy1,hy2⟩:=info_parts infoWay
 have h60:=(jjae hr).1;have HFN:Hid (∀ q,q<l.length→(el l q).1≠1000000001→∃ f:Nat,(el l q).1=(f:Int)):=fun q hq hf=>by
  have h9:0≤(el l q).1∧(el l q).1≤1000000000:=jjcf (m:=(z,l)) hr hq hf;exact⟨(el l q).1.toNat,by omega⟩
 obtain⟨vs',hvs,hS⟩:=h
 simp only[Value.agg.injEq,Array.mk.injEq,List.cons.injEq,and_true,true_and]at hvs;subst hvs;obtain⟨a,cap,rfl,hc⟩:=hS.get
 have HC:Hid (∀ j,j<l.length→∃ b off va,a=some ⟨b,off,none⟩∧b<w.heap.size∧w.cell? ⟨b,off+j*2,none⟩=some (.int .i64 (el l j).1)∧w.cell? ⟨b,off+j*2+1,none⟩=some va∧Arcs w va (el l j).2):=hc;clear hS hc hr;generalize hn:l.length=n at *;have HN:Hid (l.length=n):=hn;clear hn;go_enter Tryz.func144,Tryz.ntmps144;go_wp2
 go_loopw [3,9] (fun s3 i wr=>∃ (q:Nat) (vo:Value),q≤n∧vo=s3∧i= .int .i64 q∧Hid (wr.ownsRow w.heap.size 211 2 vo (endW l q).length ((endW l q).flatMap encD))∧Hid (Below w.heap.size w wr)) (fun _ i _=>n-(intOf i).toNat)
 case atStart=>exact ⟨0,_,Nat.zero_le _,rfl,rfl,World.ownsRow_nil _ _ _ _,(Below.refl _ _).alloc (Nat.le_refl _) _⟩
 case round=>
  obtain⟨q,vo,hq,rfl,rfl,hown,hb⟩:=hrel
  by_cases hqn:q<n
  ·obtain ⟨b,off,va,rfl,hbl,g0,g1,gA⟩:=HC.out q hqn
   obtain⟨a2,cap2,hva⟩:=gA.sl
   subst hva;have g0:=(hb.out.cell (p:=⟨b,off+q*2,none⟩) hbl).trans g0;have g1:=(hb.out.cell (p:=⟨b,off+q*2+1,none⟩) hbl).trans g1;have HT:=endW_succ l q;have hkl:=endW_le l q;have HF:=HFN.out q hqn;clear gA;generalize endW l q=ks at *;generalize (el l q).2.length=L at *;generalize (el l q).1=f at *;have hq0:(0:Int)≤(q:Int):=by omega
   have hq1:(q:Int)<(n:Int):=by omega
   have HD:Hid ((wr.alloc (.cells #[.int .i64 f,.slice a2 L cap2] 45)).ownsRow w.heap.size 211 2 vo ks.length (ks.flatMap encD)):=hown.out.alloc _;have HDB:Hid (Below w.heap.size w (wr.alloc (.cells #[.int .i64 f,.slice a2 L cap2] 45))):=hb.out.alloc hb.out.size _;by_cases hf:f=1000000001
   ·have HE:Hid (endW l (q+1)=ks):=by show _=_;rw[HT,if_neg (fun h=>h hf),List.append_nil]
    subst hf;clear HT HF;go_wp2;go_roundw
    case rel=>exact ⟨q+1,_,by omega,rfl,by go_num,by rw[HE.out];exact HD,HDB⟩
    case measure=>simp [intOf];omega
   ·have HE:Hid (endW l (q+1)=ks++[((q:Int),0,0,f)]):=by
     obtain⟨g,hg⟩:=HF hf
     show _=_;rw[HT,if_pos hf,hg];rfl
    have hfb:(f !=1000000001)=true:=by simpa using hf
    clear HT HF;go_wp2_with (first
     | (at_builtin;refine jjav encD_len (by decide) encD_one rfl _ _ 171 rfl w.heap.size 211 i1 _ 16 Tryz.underlying171 hi1 hy0 hy1 hy2 rfl _ ks.length (ks.flatMap encD) rfl (HD.out.alloc _) _ [((q:Int),0,0,f)] rfl (by have h9:=oneRow (enc:=encD) (wr.alloc (.cells #[.int .i64 f,.slice a2 L cap2] 45)) ((q:Int),0,0,f) rfl 211;simp only[World.size_alloc]at h9;exact h9) (by simp;unfold maxLen;omega) (by simp;omega) (by have:=HDB.out.size;simp at this ⊢;omega) ?_;intro v4 w4 ho4 hg4;obtain⟨HO4,HB4,HZ4⟩:=snocFacts HD.out HDB.out.size ho4 hg4;clear ho4 hg4))
    go_roundw
    case rel=>exact ⟨q+1,_,by omega,rfl,by go_num,by rw[HE.out];exact HO4,HDB.out.trans HB4.out⟩
    case measure=>simp [intOf];omega
  ·have hnl:¬ (q:Int)<(n:Int):=by omega
   have HO:Hid (Row 2 encD wr vo (endW l n)):=by
    have h9:=hown.out;rw[show q=n by omega]at h9;exact Row.ofOwn encD_len h9 rfl
   go_wp2;go_ret;exact⟨_,rfl,HO.out,hb.out⟩
structure WayTab (w:World)(base g n:Nat)(vs:List Value)(f:Nat→List Ar):Prop where
 len:vs.length=n
 blk:Blk w g vs.toArray 171
 row:∀ j,j<n→w.ownsRow base 211 2 (el vs j) (f j).length ((f j).flatMap encD)
 apart:∀ i j,i<n→j<n→i≠j→(el vs i).ownBlock=none∨(el vs i).ownBlock≠(el vs j).ownBlock
theorem WayTab.later {w w':World}{base g n:Nat}{vs:List Value}{f:Nat→List Ar}(h:WayTab w base g n vs f)(hb:Below w.heap.size w w'):WayTab w' base g n vs f:=
 ⟨h.len,h.blk.below hb h.blk.lt,fun j hj=>ownBelow (h.row j hj) hb,h.apart⟩
theorem WayTab.cell {w:World}{base g n:Nat}{vs:List Value}{f:Nat→List Ar}(h:WayTab w base g n vs f){j:Nat}(hj:j<n):w.cell? ⟨g,j,none⟩=some (el vs j):=by
 refine h.blk.cell _ ?_
 have:=h.len;rw[List.getElem?_toArray,jjaj (by omega),List.getElem?_eq_getElem (by omega)]
theorem el_setV {l:List Value}{q j:Nat}(hq:q<l.length)(v:Value):el (l.set q v) j=if j=q then v else el l j:=by
 by_cases h:j=q
 ·subst h;rw[if_pos rfl,jjaj (by simpa using hq)];simp
 ·rw [if_neg h];simp[el,List.getElem?_set_ne (Ne.symm h)]
theorem WayTab.put {w w':World}{base g n t:Nat}{x:Ar}{vs:List Value}{f:Nat→List Ar}{v':Value}(h:WayTab w base g n vs f)(ht:t<n)(ho:w'.ownsRow base 211 2 v' ((f t).length+1) ((f t).flatMap encD++[x].flatMap encD))(hg:w.grownBy w' (el vs t).ownBlock)(hn:Near w (el vs t).ownBlock v'):
  WayTab (w'.setCell ⟨g,t,none⟩ v') base g n (vs.set t v') (putW t x f):=by
 have hl:=h.len;have hb':Blk w' g vs.toArray 171:=h.blk.grown hg (jjak (h.row t ht) h.blk (by decide));have hother:∀ j,j<n→j≠t→w'.ownsRow base 211 2 (el vs j) (f j).length ((f j).flatMap encD):=fun j hj hjt=>(h.row j hj).kept hg (h.apart j t hj ht hjt)
 refine⟨by simpa using hl,?_,fun j hj=>?_,fun i j hi hj hij=>?_⟩
 ·have h9:=hb'.set t v'
  have e:vs.toArray.setIfInBounds t v'=(vs.set t v').toArray:=by simp
  rw[e]at h9;exact h9
 ·rw [el_setV (by omega)]
  unfold putW;by_cases e:j=t
  ·subst e
   rw[if_pos rfl,if_pos rfl,List.flatMap_append,List.length_append];exact ho.kept (gSet w' g j v') (.inr (Ne.symm (jjak ho hb' (by decide))))
  ·rw [if_neg e,if_neg e]
   exact(hother j hj e).kept (gSet w' g t v') (.inr (Ne.symm (jjak (hother j hj e) hb' (by decide))))
 ·rw [el_setV (by omega),el_setV (by omega)]
  by_cases e1:i=t
  ·have e2:¬ j=t:=fun e2=>hij (e1.trans e2.symm)
   rw[if_pos e1,if_neg e2];rcases hn with hn | ⟨b,hn,hbn⟩
   ·rw [hn];exact h.apart t j ht hj (by omega)
   ·right
    rw[hn];intro e9
    have:=((h.row j hj).lt b e9.symm).2;omega
  ·rw [if_neg e1]
   by_cases e2:j=t
   ·rw [if_pos e2]
    rcases hn with hn | ⟨b,hn,hbn⟩
    ·rw [hn];exact h.apart i t hi ht e1
    ·right
     rw[hn];intro e9
     have:=((h.row i hi).lt b e9).2;omega
   ·rw [if_neg e2];exact h.apart i j hi hj hij
theorem infoRowW :(Tryz.prog.info? 171).map (fun i=>(i.zero,i.size,i.bytes))=some (some (.slice none 0 0),1,24):=by kernel_rfl
theorem made_rowsW (n:Nat):madeCells (Value.cells (.slice none 0 0)) (n*1)=(List.replicate n (Value.slice none 0 0)).toArray:=by
 have hz:Value.cells (.slice none 0 0)= #[.slice none 0 0]:=rfl;apply Array.ext_getElem?
 intro t;simp only[madeCells,hz];by_cases ht:t<n
 ·simp [ht,Nat.mod_one]
 ·simp [ht]
theorem run_rowsW (n:Nat)(hn:n≤1000)(W:World):(Instr.makeSlice 173 (.int .i64 (n:Int)) (.int .i64 (n:Int))).run Tryz.prog W= .ok (.slice (some ⟨W.heap.size,0,none⟩) n n) (W.alloc (.cells (List.replicate n (Value.slice none 0 0)).toArray 171)):=by
 obtain⟨i1,hi1,hy0,hy1,hy2⟩:=info_parts infoRowW
 have h:=run_make (P:=Tryz.prog) W 173 171 i1 _ Tryz.underlying173 hi1 hy0 .i64 .i64 n n (by omega) (by omega) (by rw[hy2];omega) (by omega);rw[hy1,Int.toNat_natCast,made_rowsW]at h;exact h
theorem WayTab.start {w:World}{base g n:Nat}(h:Blk w g (List.replicate n (Value.slice none 0 0)).toArray 171):WayTab w base g n (List.replicate n (.slice none 0 0)) (fun _=>[]):=by
 have he:∀ j,j<n→el (List.replicate n (Value.slice none 0 0)) j= .slice none 0 0:=fun j hj=>by simp[el,hj]
 refine⟨by simp,h,fun j hj=>?_,fun i j hi hj _=>?_⟩
 ·rw [he j hj];exact World.ownsRow_nil _ _ _ _
 ·rw [he i hi];exact .inl rfl
def HeldTw (B1 X t:Nat)(x2 x3:Int)(v:Value)(w:World):Prop:=w.cell? ⟨X,2,none⟩=some (.int .i64 x2)∧w.cell? ⟨X,3,none⟩=some (.int .i64 x3)∧w.cell? ⟨B1,t,none⟩=some v
theorem backward_any (z:Int)(vs:Value)(l:List St)(w:World)(h:Mach w (.agg #[.int .i64 z,vs]) (z,l))(hr:faultM (z,l)=0):
  Calls Tryz.prog 145 #[.agg #[.int .i64 z,vs]] w fun e w'=>e= .returned (.slice (some ⟨w.heap.size+1,0,none⟩) l.length l.length)∧(∃ rows,WayTab w' (w.heap.size+2) (w.heap.size+1) l.length rows (filS bkK l l.length))∧Below w.heap.size w w':=by
 obtain⟨i1,hi1,hy0,hy1,hy2⟩:=info_parts infoWay
 obtain⟨vs',hvs,hS⟩:=h
 simp only[Value.agg.injEq,Array.mk.injEq,List.cons.injEq,and_true,true_and]at hvs;subst hvs;obtain⟨a,cap,rfl,hc⟩:=hS.get
 have HC:Hid (∀ j,j<l.length→∃ b off va,a=some ⟨b,off,none⟩∧b<w.heap.size∧w.cell? ⟨b,off+j*2,none⟩=some (.int .i64 (el l j).1)∧w.cell? ⟨b,off+j*2+1,none⟩=some va∧Arcs w va (el l j).2):=hc;have h60:=(jjae hr).1;have HA4:Hid (∀ j,∀ a ∈ (el l j).2,∃ t c:Nat,a.2.2.2=(t:Int)∧a.2.2.1=(c:Int)∧t<l.length):=fun j a ha=>by
  obtain⟨p,c,e1,e2,e3,_⟩:=jjfb (m:=(z,l)) hr ha
  exact⟨p,c,e1,e2,e3⟩
 have HSZ:Hid (∀ j,j<l.length→(el l j).2.length≤400∧∀ p,(filS bkK l j p).length≤400):=fun j hj=>by
  have h1:=arcs_of hj;have h2:=(jjae hr).2;refine⟨by omega,fun p=>?_⟩
  have h3:=filS_len (k:=bkK) l j p (by omega);have h4:arcN (l.take j)≤arcN l:=by
   conv=>rhs;rw[← List.take_append_drop j l,jjbd]
   omega
  omega
 clear hS hc hr;generalize hn:l.length=n at *;have HN:Hid (l.length=n):=hn;clear hn;have hmk:=run_rowsW n (by omega);go_enter Tryz.func145,Tryz.ntmps145;go_wp2;go_loopw [15] (fun i wr=>∃ (q:Nat) (rows:List Value),q≤n∧i= .int .i64 q∧Hid (WayTab wr (w.heap.size+2) (w.heap.size+1) n rows (filS bkK l q))∧Hid (Below w.heap.size w wr)∧w.heap.size+2≤wr.heap.size) (fun i _=>n-(intOf i).toNat)
 case atStart=>
  refine⟨0,_,Nat.zero_le _,rfl,WayTab.start ?_,?_,by simp⟩
  ·have h9:=Blk.made (w.alloc (.cells #[.int .i64 z,.slice a n cap] 24)) (List.replicate n (Value.slice none 0 0)).toArray 171
   simp only[World.size_alloc,List.toArray_replicate]at h9 ⊢;exact h9
  ·exact ((Below.refl _ _).alloc (Nat.le_refl _) _).alloc (by simp) _
 case round=>
  obtain⟨q,rows,hq,rfl,htab,hb,hsz⟩:=hrel
  by_cases hqn:q<n
  ·obtain ⟨b,off,va,rfl,hbl,g0,g1,gA⟩:=HC.out q hqn
   obtain⟨a2,cap2,hva,hga⟩:=gA.get
   subst hva;have g0:=(hb.out.cell (p:=⟨b,off+q*2,none⟩) hbl).trans g0;have g1:=(hb.out.cell (p:=⟨b,off+q*2+1,none⟩) hbl).trans g1
   have HGA:Hid (∀ j,j<(el l q).2.length→∃ b off,a2=some ⟨b,off,none⟩∧b<w.heap.size∧w.cell? ⟨b,off+j*4,none⟩=some (.int .i64 (el (el l q).2 j).1)∧w.cell? ⟨b,off+j*4+1,none⟩=some (.int .i64 (el (el l q).2 j).2.1)∧w.cell? ⟨b,off+j*4+2,none⟩=some (.int .i64 (el (el l q).2 j).2.2.1)∧w.cell? ⟨b,off+j*4+3,none⟩=some (.int .i64 (el (el l q).2 j).2.2.2)):=hga
   have HAL:Hid (∀ a ∈ (el l q).2,∃ t c:Nat,a.2.2.2=(t:Int)∧a.2.2.1=(c:Int)∧t<n):=HA4.out q;obtain⟨hL4,hF4⟩:=HSZ.out q hqn
   have HF4:Hid (∀ p,(filS bkK l q p).length≤400):=hF4;have HSU:=jjfa (k:=bkK) l q;clear gA hga hF4;generalize filS bkK l q=F at *;generalize (el l q).1=fin at *;generalize (el l q).2=ar at *;generalize hL:ar.length=L at *;have HL:Hid (ar.length=L):=hL;have HSU:Hid (filS bkK l (q+1)=filA bkK q ar F):=HSU;clear hL;have hq0:(0:Int)≤(q:Int):=by omega
   have hq1:(q:Int)<(n:Int):=by omega
   go_wp2;go_loopw [23] (fun i wr=>∃ (j:Nat) (rows:List Value),j≤L∧i= .int .i64 j∧Hid (WayTab wr (w.heap.size+2) (w.heap.size+1) n rows (filA bkK q (ar.take j) F))∧Hid (Below w.heap.size w wr)∧w.heap.size+2≤wr.heap.size) (fun i _=>L-(intOf i).toNat)
   case atStart=>exact ⟨0,rows,Nat.zero_le _,rfl,htab.out.later ((Below.refl _ _).alloc (Nat.le_refl _) _),hb.out.alloc hb.out.size _,by simp;omega⟩
   case round=>
    obtain⟨j,rows,hj,rfl,htab,hb,hsz⟩:=hrel
    by_cases hjL:j<L
    ·obtain ⟨b3,off3,rfl,hb3l,e0,e1,e2,e3⟩:=HGA.out j hjL
     have e0:=(hb.out.cell (p:=⟨b3,off3+j*4,none⟩) hb3l).trans e0;have e1:=(hb.out.cell (p:=⟨b3,off3+j*4+1,none⟩) hb3l).trans e1;have e2:=(hb.out.cell (p:=⟨b3,off3+j*4+2,none⟩) hb3l).trans e2;have e3:=(hb.out.cell (p:=⟨b3,off3+j*4+3,none⟩) hb3l).trans e3;have HT:=filA_take (k:=bkK) q (ar:=ar) (i:=j) (by rw[HL.out];exact hjL) F
     obtain⟨t3,c3,ht,hc3,htn3⟩:=HAL.out (el ar j) (jjac (by rw[HL.out];exact hjL))
     have HFL:Hid (∀ t,(filA bkK q (ar.take j) F t).length≤800):=fun t=>by
      have h1:=filA_len (k:=bkK) q (ar.take j) F t;have h2:=HF4.out t;rw[List.length_take]at h1;omega
     generalize el ar j=c at *;have hk:bkK q c=(t3,((q:Int),0,0,(c3:Int))):=by unfold bkK wyD;rw[ht,hc3,Int.toNat_natCast,Int.toNat_natCast]
     rw[ht]at e3;rw[hc3]at e2;have HT:Hid (filA bkK q (ar.take (j+1)) F=putW t3 ((q:Int),0,0,(c3:Int)) (filA bkK q (ar.take j) F)):=by rw[hk]at HT;exact HT
     generalize filA bkK q (ar.take j) F=G at *;have hj0:(0:Int)≤(j:Int):=by omega
     have hj1:(j:Int)<(L:Int):=by omega
     have ht0:(0:Int)≤(t3:Int):=by omega
     have ht1:(t3:Int)<(n:Int):=by omega
     have htn:t3<n:=htn3;generalize hx0:c.1=x0 at *;generalize hx1:c.2.1=x1 at *;clear hx0 hx1 ht hc3 hk;have T1:Hid (WayTab (wr.alloc (.cells #[.int .i64 x0,.int .i64 x1,.int .i64 (c3:Int),.int .i64 (t3:Int)] 56)) (w.heap.size+2) (w.heap.size+1) n rows G):=htab.out.later ((Below.refl _ _).alloc (Nat.le_refl _) _)
     have A1:Hid (Blk (wr.alloc (.cells #[.int .i64 x0,.int .i64 x1,.int .i64 (c3:Int),.int .i64 (t3:Int)] 56)) wr.heap.size #[.int .i64 x0,.int .i64 x1,.int .i64 (c3:Int),.int .i64 (t3:Int)] 56):=Blk.made _ _ _;have Z1:Hid (w.heap.size+2≤(wr.alloc (.cells #[.int .i64 x0,.int .i64 x1,.int .i64 (c3:Int),.int .i64 (t3:Int)] 56)).heap.size):=by show _≤_;rw[World.size_alloc];omega
     have Y1:Hid (Below w.heap.size w (wr.alloc (.cells #[.int .i64 x0,.int .i64 x1,.int .i64 (c3:Int),.int .i64 (t3:Int)] 56))):=hb.out.alloc hb.out.size _;clear htab hb;go_wp2;generalize hW:wr.alloc (.cells #[.int .i64 x0,.int .i64 x1,.int .i64 (c3:Int),.int .i64 (t3:Int)] 56)=W1 at *;clear hW;obtain⟨xa,xc,hxv⟩:=own_slW (T1.out.row t3 htn)
     have HXV:Hid (el rows t3= .slice xa (G t3).length xc):=hxv;have HS:HeldTw (w.heap.size+1) wr.heap.size t3 (c3:Int) (t3:Int) (.slice xa (G t3).length xc) W1.drew:=⟨A1.out.cell 2 rfl,A1.out.cell 3 rfl,by rw[← hxv];exact T1.out.cell htn⟩
     have HSA:HeldTw (w.heap.size+1) wr.heap.size t3 (c3:Int) (t3:Int) (.slice xa (G t3).length xc) (W1.drew.alloc (.cells #[.int .i64 (q:Int),.int .i64 (c3:Int)] 211)):=⟨(A1.out.drew.alloc _).cell 2 rfl,(A1.out.drew.alloc _).cell 3 rfl,by rw[← hxv];exact(T1.out.later (w':=W1.drew.alloc (.cells #[.int .i64 (q:Int),.int .i64 (c3:Int)] 211)) ((Below.refl W1.heap.size W1).drew.alloc (Nat.le_refl _) _)).cell htn⟩
     have T2:Hid (WayTab (W1.drew.alloc (.cells #[.int .i64 (q:Int),.int .i64 (c3:Int)] 211)) (w.heap.size+2) (w.heap.size+1) n rows G):=T1.out.later (w':=W1.drew.alloc (.cells #[.int .i64 (q:Int),.int .i64 (c3:Int)] 211)) ((Below.refl W1.heap.size W1).drew.alloc (Nat.le_refl _) _)
     have A2:Hid (Blk (W1.drew.alloc (.cells #[.int .i64 (q:Int),.int .i64 (c3:Int)] 211)) wr.heap.size #[.int .i64 x0,.int .i64 x1,.int .i64 (c3:Int),.int .i64 (t3:Int)] 56):=A1.out.drew.alloc _;have Y2:Hid (Below w.heap.size w (W1.drew.alloc (.cells #[.int .i64 (q:Int),.int .i64 (c3:Int)] 211))):=Y1.out.drew.alloc (by show _≤W1.heap.size;have:=Z1.out;omega) _
     have Z2:Hid (w.heap.size+2≤(W1.drew.alloc (.cells #[.int .i64 (q:Int),.int .i64 (c3:Int)] 211)).heap.size):=by show _≤_;rw[World.size_alloc];exact Nat.le_succ_of_le Z1.out
     obtain⟨v4,w4,r4,ho4,hg4,hn4⟩:=jjao (P:=Tryz.prog) (w:=W1.drew.alloc (.cells #[.int .i64 (q:Int),.int .i64 (c3:Int)] 211)) encD_len (by decide) encD_one 171 171 (w.heap.size+2) 211 i1 _ 16 Tryz.underlying171 hi1 hy0 hy1 hy2 rfl _ (G t3).length ((G t3).flatMap encD) (T2.out.row t3 htn) _ [((q:Int),0,0,(c3:Int))] (oneRow (enc:=encD) W1.drew ((q:Int),0,0,(c3:Int)) rfl 211) (by have:=HFL.out t3;simp;unfold maxLen;omega) (by have:=HFL.out t3;simp;omega) Z2.out
     have T4:Hid (Blk w4 (w.heap.size+1) rows.toArray 171):=T2.out.blk.grown hg4 (jjak (T2.out.row t3 htn) T2.out.blk (by decide));have A4:Hid (Blk w4 wr.heap.size #[.int .i64 x0,.int .i64 x1,.int .i64 (c3:Int),.int .i64 (t3:Int)] 56):=A2.out.grown hg4 (jjak (T2.out.row t3 htn) A2.out (by decide));have c4:w4.cell? ⟨w.heap.size+1,t3,none⟩=some (.slice xa (G t3).length xc):=by
      rw[← hxv];refine T4.out.cell _ ?_
      have h9:=T2.out.len;rw[List.getElem?_toArray,jjaj (by omega),List.getElem?_eq_getElem (by omega)]
     have f4:=T4.out.fz t3;have HS4:HeldTw (w.heap.size+1) wr.heap.size t3 (c3:Int) (t3:Int) (.slice xa (G t3).length xc) w4:=⟨A4.out.cell 2 rfl,A4.out.cell 3 rfl,c4⟩
     have Y4:Hid (Below w.heap.size w w4):=Y2.out.trans (gBelow hg4 (fun k hk=>by have h9:=((T2.out.row t3 htn).lt k hk).1;omega) Y2.out.size);have Z4:Hid (w.heap.size+2≤w4.heap.size):=Nat.le_trans Z2.out hg4.size;have T5:Hid (WayTab (w4.setCell ⟨w.heap.size+1,t3,none⟩ v4) (w.heap.size+2) (w.heap.size+1) n (rows.set t3 v4) (putW t3 ((q:Int),0,0,(c3:Int)) G)):=T2.out.put htn ho4 hg4 hn4
     have Y5:Hid (Below w.heap.size w (w4.setCell ⟨w.heap.size+1,t3,none⟩ v4)):=Y4.out.setCell (by show w.heap.size≤w.heap.size+1;omega) _;have Z5:Hid (w.heap.size+2≤(w4.setCell ⟨w.heap.size+1,t3,none⟩ v4).heap.size):=by simp[World.setCell];exact Z4.out
     rw[hxv]at r4;have HR4:Hid _:=r4;obtain⟨va4,vc4,hv4⟩:=own_slW ho4
     subst hv4;clear ho4 hg4 hn4 hxv r4;refine jjaf (HeldTw (w.heap.size+1) wr.heap.size t3 (c3:Int) (t3:Int) (.slice xa (G t3).length xc)) 15 (by kernel_rfl) ?_
     refine jjaa (v:=?v0_1) aZ0 ?y0_1 HS ?r0_1
     case y0_1=>intro wx hx;obtain⟨h1,h2,h3⟩:=hx;go_simp;try (with_reducible rfl)
     simp only[Act.put,sA,sB,sC];refine jjaa (v:=?v1_2) aZ1 ?y1_2 HS ?r1_2
     case y1_2=>intro wx hx;obtain⟨h1,h2,h3⟩:=hx;go_simp;try (with_reducible rfl)
     simp only[Act.put,sA,sB,sC];refine jjaa (v:=?v2_3) aZ2 ?y2_3 HS ?r2_3
     case y2_3=>intro wx hx;obtain⟨h1,h2,h3⟩:=hx;go_simp;try (with_reducible rfl)
     simp only[Act.put,sA,sB,sC];refine jjaa (v:=?v3_4) aZ3 ?y3_4 HS ?r3_4
     case y3_4=>intro wx hx;obtain⟨h1,h2,h3⟩:=hx;go_simp;try (with_reducible rfl)
     simp only[Act.put,sA,sB,sC];refine jjaa (v:=?v4_5) aZ4 ?y4_5 HS ?r4_5
     case y4_5=>intro wx hx;obtain⟨h1,h2,h3⟩:=hx;go_simp;try (with_reducible rfl)
     simp only[Act.put,sA,sB,sC];refine jjaa (v:=?v5_6) aZ5 ?y5_6 HS ?r5_6
     case y5_6=>intro wx hx;obtain⟨h1,h2,h3⟩:=hx;go_simp;try (with_reducible rfl)
     simp only[Act.put,sA,sB,sC];refine jjaa (v:=?v6_7) aZ6 ?y6_7 HS ?r6_7
     case y6_7=>intro wx hx;obtain⟨h1,h2,h3⟩:=hx;go_simp;try (with_reducible rfl)
     simp only[Act.put,sA,sB,sC];refine jjaa (v:=?v7_8) aZ7 ?y7_8 HS ?r7_8
     case y7_8=>intro wx hx;obtain⟨h1,h2,h3⟩:=hx;go_simp;try (with_reducible rfl)
     simp only[Act.put,sA,sB,sC];refine jjaa (v:=?v8_9) aZ8 ?y8_9 HS ?r8_9
     case y8_9=>intro wx hx;obtain⟨h1,h2,h3⟩:=hx;go_simp;try (with_reducible rfl)
     simp only[Act.put,sA,sB,sC];refine jjaa (v:=?v9_10) aZ9 ?y9_10 HS ?r9_10
     case y9_10=>intro wx hx;obtain⟨h1,h2,h3⟩:=hx;go_simp;try (with_reducible rfl)
     simp only[Act.put,sA,sB,sC];refine jjaa (v:=?v10_11) aZ10 ?y10_11 HS ?r10_11
     case y10_11=>intro wx hx;obtain⟨h1,h2,h3⟩:=hx;go_simp;try (with_reducible rfl)
     simp only[Act.put,sA,sB,sC];refine jjaa (v:=?v11_12) aZ11 ?y11_12 HS ?r11_12
     case y11_12=>intro wx hx;obtain⟨h1,h2,h3⟩:=hx;go_simp;try (with_reducible rfl)
     simp only[Act.put,sA,sB,sC];refine jjab aZ12 (fun K hK=>?_)
     go_simp;refine hK _ _ (.inr HSA) ?_
     try simp only[Act.put,sA,sB,sC]
     refine jjab aZ13 (fun K hK=>?_)
     refine jjaw (.tmp 34) (.tmp 39) 171 rfl rfl rfl HR4.out ?_
     refine hK _ _ (.inr HS4) ?_
     try simp only[Act.put,sA,sB,sC]
     refine jjaa (v:=?v14_13) aZ14 ?y14_13 HS4 ?r14_13
     case y14_13=>intro wx hx;obtain⟨h1,h2,h3⟩:=hx;go_simp;try (with_reducible rfl)
     simp only[Act.put,sA,sB,sC];refine jjab aZ15 (fun K hK=>?_)
     go_simp;refine hK _ _ (.inl rfl) (jjad (by kernel_rfl) (NoPanic.normal ?_))
     try simp only[Act.put,sA,sB,sC]
     clear HS HSA HS4 c4 f4;go_wp2;go_roundw
     case rel=>exact ⟨j+1,_,by omega,by go_num,by rw[HT.out];exact T5,Y5,Z5.out⟩
     case measure=>simp [intOf];omega
    ·have hnl:¬ (j:Int)<(L:Int):=by omega
     have HT5:Hid (WayTab wr (w.heap.size+2) (w.heap.size+1) n rows (filS bkK l (q+1))):=by
      have h9:=htab.out;rw[show j=ar.length by rw[HL.out];omega,List.take_length]at h9;rw[HSU.out];exact h9
     go_wp2;go_roundw
     case rel=>exact ⟨q+1,rows,by omega,by go_num,HT5,hb,hsz⟩
     case measure=>simp [intOf];omega
  ·have hnl:¬ (q:Int)<(n:Int):=by omega
   have HT5:Hid (WayTab wr (w.heap.size+2) (w.heap.size+1) n rows (filS bkK l n)):=by
    have h9:=htab.out;rw[show q=n by omega]at h9;exact h9
   go_wp2;go_ret;exact⟨rfl,⟨rows,HT5.out⟩,hb.out⟩
end Dw
namespace Wt
open ChangeShapes WideShapes ChangeAt RowKit Pl
def LstRes (Q:List Int→Int→Prop)(w:World)(e:Ending)(w':World):Prop:=∃ vr vs,∃ ec:Int,e= .returned (.tuple #[vr,.int .i64 ec])∧Q vs ec∧Nums w' vr vs∧Below w.heap.size w w'
end Wt
namespace Dw
open ChangeShapes WideShapes ChangeAt RowKit Pl Wt
theorem row_ways {w:World}{v:Value}{xs:List Ar}(h:Row 2 encD w v xs):∃ a cap,v= .slice a xs.length cap∧∀ j,j<xs.length→∃ b off,a=some ⟨b,off,none⟩∧b<w.heap.size∧w.cell? ⟨b,off+j*2,none⟩=some (.int .i64 (el xs j).1)∧w.cell? ⟨b,off+j*2+1,none⟩=some (.int .i64 (el xs j).2.2.2):=by
 by_cases hz:0<xs.length
 ·obtain ⟨b,off,cap,hv,hb,hc⟩:=h.plain (fun x=>by rw[encD_len];omega) hz
  exact⟨_,cap,hv,fun j hj=>⟨b,off,rfl,hb,hc j hj 0 _ rfl,hc j hj 1 _ rfl⟩⟩
 ·obtain ⟨a,cap,hv⟩:=h.sl
  exact⟨a,cap,hv,fun j hj=>absurd hj (by omega)⟩
structure LstAt (w wr:World)(C E V B N:Nat)(v:Value)(hs:List Ar)(bs:List Bool)(cs:List Int):Prop where
 cst:Blk wr C (cs.map (Value.int .i64)).toArray 3
 don:Blk wr E (bs.map Value.bool).toArray 4
 dvr:Blk wr V #[.slice (some ⟨E,0,none⟩) N N] 72
 var:Blk wr B #[v] 209
 heap:wr.ownsRow (B+1) 211 2 v hs.length (hs.flatMap encD)
 below:Below w.heap.size w wr
 s0:w.heap.size≤C
 s1:C<E
 s2:E<V
 s3:V<B
 s4:B+1≤wr.heap.size
variable {w wr w':World} {C E V B N:Nat} {v v':Value} {hs hs':List Ar} {bs:List Bool} {cs:List Int}
theorem LstAt.later (h:LstAt w wr C E V B N v hs bs cs)(hb:Below wr.heap.size wr w'):LstAt w w' C E V B N v hs bs cs:=
 ⟨h.cst.below hb h.cst.lt,h.don.below hb h.don.lt,h.dvr.below hb h.dvr.lt,h.var.below hb h.var.lt,ownBelow h.heap hb,h.below.trans (hb.mono h.below.size),h.s0,h.s1,h.s2,h.s3,Nat.le_trans h.s4 hb.size⟩
theorem LstAt.alloc (h:LstAt w wr C E V B N v hs bs cs)(o:Obj):LstAt w (wr.alloc o) C E V B N v hs bs cs:=h.later ((Below.refl _ _).alloc (Nat.le_refl _) _)
theorem LstAt.low (h:LstAt w wr C E V B N v hs bs cs){k:Nat}(hk:k<B+1):some k≠v.ownBlock:=fun e=>by have:=(h.heap.lt k e.symm).1;omega
theorem LstAt.turn (h:LstAt w wr C E V B N v hs bs cs)(ht:Turn2 wr w' B v.ownBlock)(hv:Blk w' B #[v'] 209)(ho:w'.ownsRow (B+1) 211 2 v' hs'.length (hs'.flatMap encD)):LstAt w w' C E V B N v' hs' bs cs:=by
 have h0:=h.s0;have h1:=h.s1;have h2:=h.s2;have h3:=h.s3;exact⟨ht.blk h.cst (by omega) (h.low (by omega)),ht.blk h.don (by omega) (h.low (by omega)),ht.blk h.dvr (by omega) (h.low (by omega)),hv,ho,h.below.trans (ht.below (by omega) (fun k hk=>by have:=(h.heap.lt k hk).1;omega) h.below.size),h0,h1,h2,h3,Nat.le_trans h.s4 ht.size⟩
theorem LstAt.setC (h:LstAt w wr C E V B N v hs bs cs)(q:Nat)(c:Int):LstAt w (wr.setCell ⟨C,q,none⟩ (.int .i64 c)) C E V B N v hs bs (cs.set q c):=by
 have h0:=h.s0;have h1:=h.s1;have h2:=h.s2;have h3:=h.s3;refine⟨by have:=h.cst.set q (.int .i64 c);rwa [jjcc]at this,h.don.setO _ _ (by show E≠C;omega),h.dvr.setO _ _ (by show V≠C;omega),h.var.setO _ _ (by show B≠C;omega),h.heap.kept (gSet wr C q _) (.inr (Ne.symm (h.low (by omega)))),h.below.setCell (p:=⟨C,q,none⟩) h0 _,h0,h1,h2,h3,?_⟩
 simp[World.setCell];exact h.s4
theorem LstAt.setE (h:LstAt w wr C E V B N v hs bs cs)(q:Nat):LstAt w (wr.setCell ⟨E,q,none⟩ (.bool true)) C E V B N v hs (bs.set q true) cs:=by
 have h0:=h.s0;have h1:=h.s1;have h2:=h.s2;have h3:=h.s3;refine⟨h.cst.setO _ _ (by show C≠E;omega),by have:=h.don.set q (.bool true);rwa [set_bool]at this,h.dvr.setO _ _ (by show V≠E;omega),h.var.setO _ _ (by show B≠E;omega),h.heap.kept (gSet wr E q _) (.inr (Ne.symm (h.low (by omega)))),h.below.setCell (p:=⟨E,q,none⟩) (by show w.heap.size≤E;omega) _,h0,h1,h2,h3,?_⟩
 simp[World.setCell];exact h.s4
theorem LstAt.drew (h:LstAt w wr C E V B N v hs bs cs):LstAt w wr.drew C E V B N v hs bs cs:=h.later (Below.refl wr.heap.size wr).drew
def lenAtD (w:World)(b:Nat):Nat:=match w.cell? ⟨b,0,none⟩with
 | some (.slice _ n _)=>n
 | _=>0
theorem LstAt.len (h:LstAt w wr C E V B N v hs bs cs):lenAtD wr B=hs.length:=by
 obtain⟨a,cap,hv⟩:=own_slW h.heap
 unfold lenAtD;rw[h.var.cell 0 (v:=v) rfl,hv]
theorem LstAt.few (h:LstAt w wr C E V B N v hs bs cs):falses wr E=bs.count false:=jjd7 h.don
theorem whPush_ex (B base:Nat)(v:Value)(hs:List Ar)(q0 q3:Int)(w:World)(hB:Blk w B #[v] 209)(hown:w.ownsRow base 211 2 v hs.length (hs.flatMap encD))(hbase:base≤w.heap.size)(hn:hs.length≤9000000)(hH:HeapW hs hs.length):
  Calls Tryz.prog 173 #[.iface 213 (.pointer (some ⟨B,0,none⟩)),.iface 211 (.agg #[.int .i64 q0,.int .i64 q3])] w fun e w'=>e= .returned (.tuple #[])∧∃ v' hs',HeapW hs' hs'.length∧hs'.Perm (hs++[(q0,0,0,q3)])∧Blk w' B #[v'] 209∧w'.ownsRow base 211 2 v' hs'.length (hs'.flatMap encD)∧Near w v.ownBlock v'∧Turn2 w w' B v.ownBlock:=
 whPush_any B base v hs (q0,0,0,q3) w hB hown hbase hn hH
theorem whPop_ex (B base:Nat)(v:Value)(hs:List Ar)(w:World)(hB:Blk w B #[v] 209)(hown:w.ownsRow base 211 2 v hs.length (hs.flatMap encD))(h0:0<hs.length)(hn:hs.length≤9000000)(hH:HeapW hs hs.length){S:Nat→List Ar}{D:Nat→Option Nat}{b N:Nat}(hD:DijD S N D hs (fun _ _=>False) b):
  Calls Tryz.prog 175 #[.iface 213 (.pointer (some ⟨B,0,none⟩))] w fun e w'=>∃ (p c:Nat),e= .returned (.iface 211 (.agg #[.int .i64 (p:Int),.int .i64 (c:Int)]))∧p<N∧c≤2000000000∧∃ v' hs',HeapW hs' hs'.length∧(wyD p c::hs').Perm hs∧(∀ a ∈ hs',(c:Int)≤a.2.2.2)∧Blk w' B #[v'] 209∧w'.ownsRow base 211 2 v' hs'.length (hs'.flatMap encD)∧Turn2 w w' B v.ownBlock:=by
 refine(whPop_any B base v hs w hB hown h0 hn hH).mono ?_
 rintro e w' ⟨q,rfl,v',hs',h1,h2,h3,h4,h5,h6,h7⟩
 obtain⟨p,c,rfl,hp,_,_,hc⟩:=hD.heap q (h2.mem_iff.1 List.mem_cons_self)
 exact⟨p,c,rfl,hp,hc,v',hs',h1,h2,h3,h4,h5,h7⟩
theorem near_next {w0 w2:World}{r:Option Nat}{v1 v2:Value}(h:Near w0 r v1)(hs:w0.heap.size≤w2.heap.size)(h2:Near w2 v1.ownBlock v2):Near w0 r v2:=by
 rcases h2 with e | ⟨b,e,hb⟩
 ·rcases h with e1 | ⟨b1,e1,hb1⟩
  ·exact .inl (e.trans e1)
  ·exact .inr ⟨b1,e.trans e1,hb1⟩
 ·exact .inr ⟨b,e,Nat.le_trans hs hb⟩
theorem put_any {S:Nat→List Ar}{D:Nat→Option Nat}(w w1:World)(C E V B N p c:Nat)(v vl:Value)(hs:List Ar)(bs:List Bool)(cs:List Int)(hT:LstAt w w1 C E V B N v hs bs cs)(hS:StpR S N)(hD:DijD S N D hs (fun q i=>q=p∧0≤i) c)(hpc:D p=some c)(hB:DonB D bs N)(hH:HeapW hs hs.length)(hl:hs.length≤100000)(hp:p≤N)(hr:Row 2 encD w vl (S p))(hN:N≤60)(hc:c≤1000000000):
  Calls Tryz.prog 172 #[vl,.int .i64 (c:Int),.pointer (some ⟨V,0,none⟩),.pointer (some ⟨B,0,none⟩)] w1 fun e w'=>e= .returned (.tuple #[])∧∃ v' hs',LstAt w w' C E V B N v' hs' bs cs∧DijD S N D hs' (fun _ _=>False) c∧HeapW hs' hs'.length∧hs'.length≤hs.length+400∧Turn2 w1 w' B v.ownBlock:=by
 obtain⟨a,cap,hv,hcl⟩:=row_ways hr
 subst hv;have HCL:=hidP hcl;have HT:=hidP hT;have HS:=hidP hS;have HD:=hidP hD;have HPC:=hidP hpc;have HDB:=hidP hB;have HH:=hidP hH;have HSP:=hidP (hS p hp);have hL4:=(hS p hp).1;clear hT hS hD hpc hB hH hr hcl;generalize hL:(S p).length=L at *;have HL:=hidP hL;clear hL;have hnot:∀ (x:Bool) (w:World),(Op.unary .not (.bool x)).run Tryz.prog w= .ok (.bool (!x)) w:=fun _ _=>rfl
 go_enter Tryz.func172,Tryz.ntmps172;go_wp2;go_loopw [10] (fun i wi=>∃ (k:Nat) (v':Value) (hs':List Ar),k≤L∧i= .int .i64 (k:Int)∧Hid (DijD S N D hs' (fun q i=>q=p∧k≤i) c∧HeapW hs' hs'.length∧hs'.length≤hs.length+k)∧Hid (LstAt w wi C E V B N v' hs' bs cs)∧Hid (Near w1 v.ownBlock v'∧Turn2 w1 wi B v.ownBlock)) (fun i _=>L-(intOf i).toNat)
 case atStart=>exact ⟨0,v,hs,Nat.zero_le _,rfl,⟨HD.out,HH.out,Nat.le_refl _⟩,HT,.inl rfl,Turn2.grown (gNew (Below.refl _ _)) B⟩
 case round=>
  clear HT HD HH;obtain⟨k,v5,hs5,hk,rfl,hI,hT,hU⟩:=hrel
  obtain⟨w5,hw5⟩:∃ w5,w5=wr:=⟨_,rfl⟩
  subst hw5;by_cases hlt:k<L
  ·have j0:(0:Int)≤(k:Int):=Int.natCast_nonneg _
   have j1:(k:Int)<(L:Int):=by omega
   obtain⟨b2,off2,ha2,hb2l,q0,q1⟩:=HCL.out k hlt
   subst ha2;have q0:=(hT.out.below.cell (p:=⟨b2,off2+k*2,none⟩) hb2l).trans q0;have q1:=(hT.out.below.cell (p:=⟨b2,off2+k*2+1,none⟩) hb2l).trans q1;obtain⟨p',wt,hw,hpN,hwl⟩:=HSP.out.2 (el (S p) k) (jjac (by rw[HL.out];exact hlt))
   have HW:=hidP hw;rw[hw]at q0 q1;simp only[wyD]at q0 q1;clear hw;have hsum:IntKind.i64.wrap ((c:Int)+(wt:Int))=(c:Int)+(wt:Int):=wrapI (by omega) (by omega);have p0:(0:Int)≤(p':Int):=Int.natCast_nonneg _;have p1:(p':Int)<(N:Int):=by omega
   have T6:=hidP (hT.out.alloc (.cells #[.int .i64 (p':Int),.int .i64 (wt:Int)] 211));have U6:Hid (Near w1 v.ownBlock v5∧Turn2 w1 (w5.alloc (.cells #[.int .i64 (p':Int),.int .i64 (wt:Int)] 211)) B v.ownBlock):=⟨hU.out.1,hU.out.2.trans (Turn2.grown (World.grownBy_alloc _ _ _) B) (.inl rfl)⟩
   have cV:=T6.out.dvr.cell 0 (v:= .slice (some ⟨E,0,none⟩) N N) rfl;have cE:=jjdr T6.out.don (j:=p') (by rw[HDB.out.1];exact hpN);have hl5:hs5.length≤9000000:=by have:=hI.out.2.2;omega
   rcases jjam (el bs p')with hf | hf
   ·rw [hf]at cE
    obtain⟨e,he⟩:=HDB.out.some hpN hf
    have HE:=hidP he;clear hf he;go_wp2;go_roundw
    case rel=>exact ⟨k+1,v5,hs5,by omega,by go_num,⟨hI.out.1.skip HPC.out HW.out HE.out,hI.out.2.1,by have:=hI.out.2.2;omega⟩,T6,U6⟩
    case measure=>simp [intOf];omega
   ·rw [hf]at cE
    have HPU:=hidP (whPush_ex B (B+1) v5 hs5 (p':Int) ((c:Int)+(wt:Int)) _ T6.out.var T6.out.heap T6.out.s4 hl5 hI.out.2.1);clear hf;go_wp2_with (first
     | (go_at_call 173;(with_reducible refine HPU.out.mono ?_);rintro e w8 ⟨rfl,v8,hs8,hh8,hp8,hb8,ho8,hn8,ht8⟩;have T8:=hidP (T6.out.turn ht8 hb8 ho8);have U8:Hid (Near w1 v.ownBlock v8∧Turn2 w1 w8 B v.ownBlock):=⟨near_next U6.out.1 U6.out.2.size hn8,U6.out.2.trans ht8 U6.out.1⟩;have HP8:=hidP hp8;have HH8:=hidP hh8;clear hh8 hp8 hb8 ho8 hn8 ht8))
    go_roundw
    case rel=>
     refine⟨k+1,v8,hs8,by omega,by go_num,⟨hI.out.1.push HS.out HPC.out (by rw[HL.out];exact hlt) HW.out ?_,HH8.out,?_⟩,T8,U8⟩
     ·have h9:=HP8.out
      rw[← Int.natCast_add]at h9;exact h9
     ·rw [HP8.out.length_eq,List.length_append]
      have:=hI.out.2.2;simp;omega
    case measure=>simp [intOf];omega
  ·have hke:k=L:=by omega
   have hnl:¬ (k:Int)<(L:Int):=by omega
   have HDA:=hidP (hI.out.1.all (by rw[HL.out];omega));go_wp2;go_end0;exact⟨rfl,v5,hs5,hT.out,HDA.out,hI.out.2.1,by have:=hI.out.2.2;omega,hU.out.2⟩
end Go.Proofs.YtppkiejhhmahcaaGreatDoor.Dw
