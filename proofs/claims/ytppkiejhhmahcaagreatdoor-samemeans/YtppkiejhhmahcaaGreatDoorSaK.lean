/- Facts, joined. -/
import Derived.Test.YtppkiejhhmahcaaGreatDoorSaJ
set_option linter.unusedSimpArgs false
set_option linter.unusedVariables false
set_option maxHeartbeats 3200000
set_option maxRecDepth 100000
namespace Go.Proofs.YtppkiejhhmahcaaGreatDoor.Wt
open ChangeShapes WideShapes ChangeAt RowKit Pl
theorem ends_any (z:Int)(vs:Value)(l:List St)(w:World)(h:Mach w (.agg #[.int .i64 z,vs]) (z,l))(h60:l.length≤60):
  Calls Tryz.prog 85 #[.agg #[.int .i64 z,vs]] w fun e w'=>∃ v',e= .returned v'∧w'.ownsRow w.heap.size 3 1 v' (endL l l.length).length ((endL l l.length).flatMap encI1)∧Below w.heap.size w w':=by
 obtain⟨i1,hi1,hy0,hy1,hy2⟩:=info_parts infoIntS
 obtain⟨vs',hvs,hS⟩:=h
 simp only[Value.agg.injEq,Array.mk.injEq,List.cons.injEq,and_true,true_and]at hvs;subst hvs;obtain⟨a,cap,rfl,hc⟩:=hS.get
 have HC:Hid (∀ j,j<l.length→∃ b off va,a=some ⟨b,off,none⟩∧b<w.heap.size∧w.cell? ⟨b,off+j*2,none⟩=some (.int .i64 (el l j).1)∧w.cell? ⟨b,off+j*2+1,none⟩=some va∧Arcs w va (el l j).2):=hc;clear hS hc;generalize hn:l.length=n at *;have HN:Hid (l.length=n):=hn;clear hn;go_enter Tryz.func85,Tryz.ntmps85;go_wp2
 go_loopw [3,9] (fun s3 i wr=>∃ (q:Nat) (vo:Value),q≤n∧vo=s3∧i= .int .i64 q∧Hid (wr.ownsRow w.heap.size 3 1 vo (endL l q).length ((endL l q).flatMap encI1))∧Hid (Below w.heap.size w wr)) (fun _ i _=>n-(intOf i).toNat)
 case atStart=>exact ⟨0,_,Nat.zero_le _,rfl,rfl,World.ownsRow_nil _ _ _ _,(Below.refl _ _).alloc (Nat.le_refl _) _⟩
 case round=>
  obtain⟨q,vo,hq,rfl,rfl,hown,hb⟩:=hrel
  by_cases hqn:q<n
  ·obtain ⟨b,off,va,rfl,hbl,g0,g1,gA⟩:=HC.out q hqn
   obtain⟨a2,cap2,hva⟩:=gA.sl
   subst hva;have g0:=(hb.out.cell (p:=⟨b,off+q*2,none⟩) hbl).trans g0;have g1:=(hb.out.cell (p:=⟨b,off+q*2+1,none⟩) hbl).trans g1;have HT:=endL_succ l q;have hkl:=endL_le l q;clear gA;generalize endL l q=ks at *;generalize (el l q).2.length=L at *;generalize (el l q).1=f at *;have hq0:(0:Int)≤(q:Int):=by omega
   have hq1:(q:Int)<(n:Int):=by omega
   have HD:Hid ((wr.alloc (.cells #[.int .i64 f,.slice a2 L cap2] 45)).ownsRow w.heap.size 3 1 vo ks.length (ks.flatMap encI1)):=hown.out.alloc _;have HDB:Hid (Below w.heap.size w (wr.alloc (.cells #[.int .i64 f,.slice a2 L cap2] 45))):=hb.out.alloc hb.out.size _;by_cases hf:f=1000000001
   ·have HE:Hid (endL l (q+1)=ks):=by show _=_;rw[HT,if_neg (fun h=>h hf),List.append_nil]
    subst hf;clear HT;go_wp2;go_roundw
    case rel=>exact ⟨q+1,_,by omega,rfl,by go_num,by rw[HE.out];exact HD,HDB⟩
    case measure=>simp [intOf];omega
   ·have HE:Hid (endL l (q+1)=ks++[(q:Int)]):=by show _=_;rw[HT,if_pos hf]
    have hfb:(f !=1000000001)=true:=by simpa using hf
    clear HT;go_wp2_with (first
     | (at_builtin;refine jjav jjbg (by decide) jjc6 rfl _ _ 36 rfl w.heap.size 3 i1 _ 8 Tryz.underlying36 hi1 hy0 hy1 hy2 rfl _ ks.length (ks.flatMap encI1) rfl (HD.out.alloc _) _ [(q:Int)] rfl (by have h9:=oneRow (enc:=encI1) (wr.alloc (.cells #[.int .i64 f,.slice a2 L cap2] 45)) (q:Int) rfl 3;simp only[World.size_alloc]at h9;exact h9) (by simp;unfold maxLen;omega) (by simp;omega) (by have:=HDB.out.size;simp at this ⊢;omega) ?_;intro v4 w4 ho4 hg4;obtain⟨HO4,HB4,HZ4⟩:=snocFacts HD.out HDB.out.size ho4 hg4;clear ho4 hg4))
    go_roundw
    case rel=>exact ⟨q+1,_,by omega,rfl,by go_num,by rw[HE.out];exact HO4,HDB.out.trans HB4.out⟩
    case measure=>simp [intOf];omega
  ·have hnl:¬ (q:Int)<(n:Int):=by omega
   have HO:Hid (wr.ownsRow w.heap.size 3 1 vo (endL l n).length ((endL l n).flatMap encI1)):=by
    have h9:=hown.out;rw[show q=n by omega]at h9;exact h9
   go_wp2;go_ret;exact⟨_,rfl,HO.out,hb.out⟩
structure RowTab (w:World)(base g n:Nat)(vs:List Value)(f:Nat→List Int):Prop where
 len:vs.length=n
 blk:Blk w g vs.toArray 36
 row:∀ j,j<n→w.ownsRow base 3 1 (el vs j) (f j).length ((f j).flatMap encI1)
 apart:∀ i j,i<n→j<n→i≠j→(el vs i).ownBlock=none∨(el vs i).ownBlock≠(el vs j).ownBlock
theorem RowTab.later {w w':World}{base g n:Nat}{vs:List Value}{f:Nat→List Int}(h:RowTab w base g n vs f)(hb:Below w.heap.size w w'):RowTab w' base g n vs f:=
 ⟨h.len,h.blk.below hb h.blk.lt,fun j hj=>ownBelow (h.row j hj) hb,h.apart⟩
theorem RowTab.cell {w:World}{base g n:Nat}{vs:List Value}{f:Nat→List Int}(h:RowTab w base g n vs f){j:Nat}(hj:j<n):w.cell? ⟨g,j,none⟩=some (el vs j):=by
 refine h.blk.cell _ ?_
 have:=h.len;rw[List.getElem?_toArray,jjaj (by omega),List.getElem?_eq_getElem (by omega)]
theorem el_setV {l:List Value}{q j:Nat}(hq:q<l.length)(v:Value):el (l.set q v) j=if j=q then v else el l j:=by
 by_cases h:j=q
 ·subst h;rw[if_pos rfl,jjaj (by simpa using hq)];simp
 ·rw [if_neg h];simp[el,List.getElem?_set_ne (Ne.symm h)]
theorem RowTab.put {w w':World}{base g n t q:Nat}{vs:List Value}{f:Nat→List Int}{v':Value}(h:RowTab w base g n vs f)(ht:t<n)(ho:w'.ownsRow base 3 1 v' ((f t).length+1) ((f t).flatMap encI1++[(q:Int)].flatMap encI1))(hg:w.grownBy w' (el vs t).ownBlock)(hn:Near w (el vs t).ownBlock v'):
  RowTab (w'.setCell ⟨g,t,none⟩ v') base g n (vs.set t v') (putT t q f):=by
 have hl:=h.len;have hb':Blk w' g vs.toArray 36:=h.blk.grown hg (jjak (h.row t ht) h.blk (by decide));have hother:∀ j,j<n→j≠t→w'.ownsRow base 3 1 (el vs j) (f j).length ((f j).flatMap encI1):=fun j hj hjt=>(h.row j hj).kept hg (h.apart j t hj ht hjt)
 refine⟨by simpa using hl,?_,fun j hj=>?_,fun i j hi hj hij=>?_⟩
 ·have h9:=hb'.set t v'
  have e:vs.toArray.setIfInBounds t v'=(vs.set t v').toArray:=by simp
  rw[e]at h9;exact h9
 ·rw [el_setV (by omega)]
  unfold putT;by_cases e:j=t
  ·subst e
   rw[if_pos rfl,if_pos rfl,List.flatMap_append,List.length_append];exact ho.kept (gSet w' g j v') (.inr (Ne.symm (jjak ho hb' (by decide))))
  ·rw [if_neg e,if_neg e]
   exact(hother j hj e).kept (gSet w' g t v') (.inr (Ne.symm (jjak (hother j hj e) hb' (by decide))))
 ·rw [el_setV (by omega),el_setV (by omega)]
  by_cases e1:i=t
  ·have e2:¬ j=t:=fun e2=>hij (e1.trans e2.symm)
   rw[if_pos e1,if_neg e2];rcases hn with hn | ⟨b,hn,hbn⟩
   ·rw [hn];exact h.apart t j ht hj (by omega)
   ·right
    rw[hn];intro e9
    have:=((h.row j hj).lt b e9.symm).2;omega
  ·rw [if_neg e1]
   by_cases e2:j=t
   ·rw [if_pos e2]
    rcases hn with hn | ⟨b,hn,hbn⟩
    ·rw [hn];exact h.apart i t hi ht e1
    ·right
     rw[hn];intro e9
     have:=((h.row i hi).lt b e9).2;omega
   ·rw [if_neg e2];exact h.apart i j hi hj hij
theorem infoRow :(Tryz.prog.info? 36).map (fun i=>(i.zero,i.size,i.bytes))=some (some (.slice none 0 0),1,24):=by kernel_rfl
theorem made_rows (n:Nat):madeCells (Value.cells (.slice none 0 0)) (n*1)=(List.replicate n (Value.slice none 0 0)).toArray:=by
 have hz:Value.cells (.slice none 0 0)= #[.slice none 0 0]:=rfl;apply Array.ext_getElem?
 intro t;simp only[madeCells,hz];by_cases ht:t<n
 ·simp [ht,Nat.mod_one]
 ·simp [ht]
theorem run_rows (n:Nat)(hn:n≤1000)(W:World):(Instr.makeSlice 78 (.int .i64 (n:Int)) (.int .i64 (n:Int))).run Tryz.prog W= .ok (.slice (some ⟨W.heap.size,0,none⟩) n n) (W.alloc (.cells (List.replicate n (Value.slice none 0 0)).toArray 36)):=by
 obtain⟨i1,hi1,hy0,hy1,hy2⟩:=info_parts infoRow
 have h:=run_make (P:=Tryz.prog) W 78 36 i1 _ Tryz.underlying78 hi1 hy0 .i64 .i64 n n (by omega) (by omega) (by rw[hy2];omega) (by omega);rw[hy1,Int.toNat_natCast,made_rows]at h;exact h
theorem RowTab.start {w:World}{base g n:Nat}(h:Blk w g (List.replicate n (Value.slice none 0 0)).toArray 36):RowTab w base g n (List.replicate n (.slice none 0 0)) (fun _=>[]):=by
 have he:∀ j,j<n→el (List.replicate n (Value.slice none 0 0)) j= .slice none 0 0:=fun j hj=>by simp[el,hj]
 refine⟨by simp,h,fun j hj=>?_,fun i j hi hj _=>?_⟩
 ·rw [he j hj];exact World.ownsRow_nil _ _ _ _
 ·rw [he i hi];exact .inl rfl
def HeldTb (B2 B1 n X t:Nat)(v:Value)(w:World):Prop:=w.cell? ⟨B2,0,none⟩=some (.slice (some ⟨B1,0,none⟩) n n)∧w.cell? ⟨X,3,none⟩=some (.int .i64 (t:Int))∧w.cell? ⟨B1,t,none⟩=some v
theorem jjer (z:Int)(vs:Value)(l:List St)(w:World)(h:Mach w (.agg #[.int .i64 z,vs]) (z,l))(hr:faultM (z,l)=0):
  Calls Tryz.prog 86 #[.agg #[.int .i64 z,vs]] w fun e w'=>e= .returned (.func (.func 134) #[] #[.pointer (some ⟨w.heap.size+2,0,none⟩)])∧Blk w' (w.heap.size+2) #[.slice (some ⟨w.heap.size+1,0,none⟩) l.length l.length] 78∧(∃ rows,RowTab w' (w.heap.size+3) (w.heap.size+1) l.length rows (fillS l l.length))∧Below w.heap.size w w':=by
 obtain⟨i1,hi1,hy0,hy1,hy2⟩:=info_parts infoIntS
 obtain⟨vs',hvs,hS⟩:=h
 simp only[Value.agg.injEq,Array.mk.injEq,List.cons.injEq,and_true,true_and]at hvs;subst hvs;obtain⟨a,cap,rfl,hc⟩:=hS.get
 have HC:Hid (∀ j,j<l.length→∃ b off va,a=some ⟨b,off,none⟩∧b<w.heap.size∧w.cell? ⟨b,off+j*2,none⟩=some (.int .i64 (el l j).1)∧w.cell? ⟨b,off+j*2+1,none⟩=some va∧Arcs w va (el l j).2):=hc;have h60:=(jjae hr).1;have HA4:Hid (∀ j,j<l.length→(el l j).2.all (arcB l.length)=true):=fun j hj=>(jjbv hr hj).2
 have HSZ:Hid (∀ j,j<l.length→(el l j).2.length≤400∧∀ p,(fillS l j p).length≤400):=fun j hj=>by
  have h1:=st_arcs hj;have h2:=(jjae hr).2;refine⟨by omega,fun p=>?_⟩
  have h3:=fillS_len l j p (by omega);have h4:arcN (l.take j)≤arcN l:=by
   conv=>rhs;rw[← List.take_append_drop j l,jjbd]
   omega
  omega
 clear hS hc hr;generalize hn:l.length=n at *;have HN:Hid (l.length=n):=hn;clear hn;have hmk:=run_rows n (by omega);go_enter Tryz.func86,Tryz.ntmps86;go_wp2
 go_loopw [15] (fun i wr=>∃ (q:Nat) (rows:List Value),q≤n∧i= .int .i64 q∧Hid (RowTab wr (w.heap.size+3) (w.heap.size+1) n rows (fillS l q))∧Hid (Blk wr (w.heap.size+1+1) #[.slice (some ⟨w.heap.size+1,0,none⟩) n n] 78)∧Hid (Below w.heap.size w wr)∧w.heap.size+3≤wr.heap.size) (fun i _=>n-(intOf i).toNat)
 case atStart=>
  refine⟨0,_,Nat.zero_le _,rfl,RowTab.start ?_,?_,?_,by simp⟩
  ·have h9:=(Blk.made (w.alloc (.cells #[.int .i64 z,.slice a n cap] 24)) (List.replicate n (Value.slice none 0 0)).toArray 36).alloc (.cells #[.slice (some ⟨w.heap.size+1,0,none⟩) n n] 78)
   simp only[World.size_alloc,List.toArray_replicate]at h9 ⊢;exact h9
  ·have h9:=Blk.made ((w.alloc (.cells #[.int .i64 z,.slice a n cap] 24)).alloc (.cells (Array.replicate n (Value.slice none 0 0)) 36)) #[.slice (some ⟨w.heap.size+1,0,none⟩) n n] 78
   simp only[World.size_alloc]at h9;exact h9
  ·exact (((Below.refl _ _).alloc (Nat.le_refl _) _).alloc (by simp) _).alloc (by simp;omega) _
 case round=>
  obtain⟨q,rows,hq,rfl,htab,hbx,hb,hsz⟩:=hrel
  by_cases hqn:q<n
  ·obtain ⟨b,off,va,rfl,hbl,g0,g1,gA⟩:=HC.out q hqn
   obtain⟨a2,cap2,hva,hga⟩:=gA.get
   subst hva;have g0:=(hb.out.cell (p:=⟨b,off+q*2,none⟩) hbl).trans g0;have g1:=(hb.out.cell (p:=⟨b,off+q*2+1,none⟩) hbl).trans g1
   have HGA:Hid (∀ j,j<(el l q).2.length→∃ b off,a2=some ⟨b,off,none⟩∧b<w.heap.size∧w.cell? ⟨b,off+j*4,none⟩=some (.int .i64 (el (el l q).2 j).1)∧w.cell? ⟨b,off+j*4+1,none⟩=some (.int .i64 (el (el l q).2 j).2.1)∧w.cell? ⟨b,off+j*4+2,none⟩=some (.int .i64 (el (el l q).2 j).2.2.1)∧w.cell? ⟨b,off+j*4+3,none⟩=some (.int .i64 (el (el l q).2 j).2.2.2)):=hga
   have HAL:Hid (∀ a ∈ (el l q).2,∃ t:Nat,a.2.2.2=(t:Int)∧t<n):=fun a ha=>by
    have h9:=List.all_eq_true.1 (HA4.out q hqn) a ha;simp only[arcB,inB,Bool.and_eq_true,decide_eq_true_eq]at h9;exact⟨a.2.2.2.toNat,by omega,by omega⟩
   obtain⟨hL4,hF4⟩:=HSZ.out q hqn
   have HF4:Hid (∀ p,(fillS l q p).length≤400):=hF4;have HSU:=jjd8 l q;clear gA hga hF4;generalize fillS l q=F at *;generalize (el l q).1=fin at *;generalize (el l q).2=ar at *;generalize hL:ar.length=L at *;have HL:Hid (ar.length=L):=hL;have HSU:Hid (fillS l (q+1)=fillA q ar F):=HSU;clear hL;have hq0:(0:Int)≤(q:Int):=by omega
   have hq1:(q:Int)<(n:Int):=by omega
   go_wp2;go_loopw [23] (fun i wr=>∃ (j:Nat) (rows:List Value),j≤L∧i= .int .i64 j∧Hid (RowTab wr (w.heap.size+3) (w.heap.size+1) n rows (fillA q (ar.take j) F))∧Hid (Blk wr (w.heap.size+1+1) #[.slice (some ⟨w.heap.size+1,0,none⟩) n n] 78)∧Hid (Below w.heap.size w wr)∧w.heap.size+3≤wr.heap.size) (fun i _=>L-(intOf i).toNat)
   case atStart=>exact ⟨0,rows,Nat.zero_le _,rfl,htab.out.later ((Below.refl _ _).alloc (Nat.le_refl _) _),hbx.out.alloc _,hb.out.alloc hb.out.size _,by simp;omega⟩
   case round=>
    obtain⟨j,rows,hj,rfl,htab,hbx,hb,hsz⟩:=hrel
    by_cases hjL:j<L
    ·obtain ⟨b3,off3,rfl,hb3l,e0,e1,e2,e3⟩:=HGA.out j hjL
     have e0:=(hb.out.cell (p:=⟨b3,off3+j*4,none⟩) hb3l).trans e0;have e1:=(hb.out.cell (p:=⟨b3,off3+j*4+1,none⟩) hb3l).trans e1;have e2:=(hb.out.cell (p:=⟨b3,off3+j*4+2,none⟩) hb3l).trans e2;have e3:=(hb.out.cell (p:=⟨b3,off3+j*4+3,none⟩) hb3l).trans e3;have HT:=fillA_take q (ar:=ar) (k:=j) (by rw[HL.out];exact hjL) F;obtain⟨t,ht,htn⟩:=HAL.out (el ar j) (jjac (by rw[HL.out];exact hjL))
     have HFL:Hid ((fillA q (ar.take j) F t).length≤800):=by
      have h1:=fillA_len q (ar.take j) F t;have h2:=HF4.out t;rw[List.length_take]at h1;show _≤_;omega
     generalize el ar j=c at *;rw[ht]at HT e3;rw[Int.toNat_natCast]at HT;have HT:Hid (fillA q (ar.take (j+1)) F=putT t q (fillA q (ar.take j) F)):=HT;generalize fillA q (ar.take j) F=G at *;have hj0:(0:Int)≤(j:Int):=by omega
     have hj1:(j:Int)<(L:Int):=by omega
     have ht0:(0:Int)≤(t:Int):=by omega
     have ht1:(t:Int)<(n:Int):=by omega
     generalize hx0:c.1=x0 at *;generalize hx1:c.2.1=x1 at *;generalize hx2:c.2.2.1=x2 at *;clear hx0 hx1 hx2 ht;have T1:Hid (RowTab (wr.alloc (.cells #[.int .i64 x0,.int .i64 x1,.int .i64 x2,.int .i64 (t:Int)] 56)) (w.heap.size+3) (w.heap.size+1) n rows G):=htab.out.later ((Below.refl _ _).alloc (Nat.le_refl _) _)
     have X1:Hid (Blk (wr.alloc (.cells #[.int .i64 x0,.int .i64 x1,.int .i64 x2,.int .i64 (t:Int)] 56)) (w.heap.size+1+1) #[.slice (some ⟨w.heap.size+1,0,none⟩) n n] 78):=hbx.out.alloc _;have A1:Hid (Blk (wr.alloc (.cells #[.int .i64 x0,.int .i64 x1,.int .i64 x2,.int .i64 (t:Int)] 56)) wr.heap.size #[.int .i64 x0,.int .i64 x1,.int .i64 x2,.int .i64 (t:Int)] 56):=Blk.made _ _ _
     have Z1:Hid (w.heap.size+3≤(wr.alloc (.cells #[.int .i64 x0,.int .i64 x1,.int .i64 x2,.int .i64 (t:Int)] 56)).heap.size):=by show _≤_;rw[World.size_alloc];omega
     have Y1:Hid (Below w.heap.size w (wr.alloc (.cells #[.int .i64 x0,.int .i64 x1,.int .i64 x2,.int .i64 (t:Int)] 56))):=hb.out.alloc hb.out.size _;clear htab hbx hb;go_wp2;generalize hW:wr.alloc (.cells #[.int .i64 x0,.int .i64 x1,.int .i64 x2,.int .i64 (t:Int)] 56)=W1 at *;clear hW;obtain⟨xa,xc,hxv⟩:=jjbx (T1.out.row t htn)
     have HXV:Hid (el rows t= .slice xa (G t).length xc):=hxv;have HS:HeldTb (w.heap.size+1+1) (w.heap.size+1) n wr.heap.size t (.slice xa (G t).length xc) W1.drew:=⟨X1.out.cell 0 rfl,A1.out.cell 3 rfl,by rw[← hxv];exact T1.out.cell htn⟩
     have HSA:HeldTb (w.heap.size+1+1) (w.heap.size+1) n wr.heap.size t (.slice xa (G t).length xc) (W1.drew.alloc (.cells #[.int .i64 (q:Int)] 3)):=⟨(X1.out.drew.alloc _).cell 0 rfl,(A1.out.drew.alloc _).cell 3 rfl,by rw[← hxv];exact(T1.out.later (w':=W1.drew.alloc (.cells #[.int .i64 (q:Int)] 3)) ((Below.refl W1.heap.size W1).drew.alloc (Nat.le_refl _) _)).cell htn⟩
     have T2:Hid (RowTab (W1.drew.alloc (.cells #[.int .i64 (q:Int)] 3)) (w.heap.size+3) (w.heap.size+1) n rows G):=T1.out.later (w':=W1.drew.alloc (.cells #[.int .i64 (q:Int)] 3)) ((Below.refl W1.heap.size W1).drew.alloc (Nat.le_refl _) _);have X2:Hid (Blk (W1.drew.alloc (.cells #[.int .i64 (q:Int)] 3)) (w.heap.size+1+1) #[.slice (some ⟨w.heap.size+1,0,none⟩) n n] 78):=X1.out.drew.alloc _
     have A2:Hid (Blk (W1.drew.alloc (.cells #[.int .i64 (q:Int)] 3)) wr.heap.size #[.int .i64 x0,.int .i64 x1,.int .i64 x2,.int .i64 (t:Int)] 56):=A1.out.drew.alloc _;have Y2:Hid (Below w.heap.size w (W1.drew.alloc (.cells #[.int .i64 (q:Int)] 3))):=Y1.out.drew.alloc (by show _≤W1.heap.size;have:=Z1.out;omega) _
     have Z2:Hid (w.heap.size+3≤(W1.drew.alloc (.cells #[.int .i64 (q:Int)] 3)).heap.size):=by show _≤_;rw[World.size_alloc];exact Nat.le_succ_of_le Z1.out
     obtain⟨v4,w4,r4,ho4,hg4,hn4⟩:=jjao (P:=Tryz.prog) (w:=W1.drew.alloc (.cells #[.int .i64 (q:Int)] 3)) jjbg (by decide) jjc6 36 36 (w.heap.size+3) 3 i1 _ 8 Tryz.underlying36 hi1 hy0 hy1 hy2 rfl _ (G t).length ((G t).flatMap encI1) (T2.out.row t htn) _ [(q:Int)] (oneRow (enc:=encI1) W1.drew (q:Int) rfl 3) (by have:=HFL.out;simp;unfold maxLen;omega) (by have:=HFL.out;simp;omega) Z2.out
     have T4:Hid (Blk w4 (w.heap.size+1) rows.toArray 36):=T2.out.blk.grown hg4 (jjak (T2.out.row t htn) T2.out.blk (by decide));have X4:Hid (Blk w4 (w.heap.size+1+1) #[.slice (some ⟨w.heap.size+1,0,none⟩) n n] 78):=X2.out.grown hg4 (jjak (T2.out.row t htn) X2.out (by decide))
     have A4:Hid (Blk w4 wr.heap.size #[.int .i64 x0,.int .i64 x1,.int .i64 x2,.int .i64 (t:Int)] 56):=A2.out.grown hg4 (jjak (T2.out.row t htn) A2.out (by decide));have c4:w4.cell? ⟨w.heap.size+1,t,none⟩=some (.slice xa (G t).length xc):=by
      rw[← hxv];refine T4.out.cell _ ?_
      have h9:=T2.out.len;rw[List.getElem?_toArray,jjaj (by omega),List.getElem?_eq_getElem (by omega)]
     have f4:=T4.out.fz t;have HS4:HeldTb (w.heap.size+1+1) (w.heap.size+1) n wr.heap.size t (.slice xa (G t).length xc) w4:=⟨X4.out.cell 0 rfl,A4.out.cell 3 rfl,c4⟩
     have Y4:Hid (Below w.heap.size w w4):=Y2.out.trans (gBelow hg4 (fun k hk=>by have h9:=((T2.out.row t htn).lt k hk).1;omega) Y2.out.size);have Z4:Hid (w.heap.size+3≤w4.heap.size):=Nat.le_trans Z2.out hg4.size;have T5:Hid (RowTab (w4.setCell ⟨w.heap.size+1,t,none⟩ v4) (w.heap.size+3) (w.heap.size+1) n (rows.set t v4) (putT t q G)):=T2.out.put htn ho4 hg4 hn4
     have X5:Hid (Blk (w4.setCell ⟨w.heap.size+1,t,none⟩ v4) (w.heap.size+1+1) #[.slice (some ⟨w.heap.size+1,0,none⟩) n n] 78):=X4.out.setO _ _ (by show w.heap.size+1+1≠w.heap.size+1;omega);have Y5:Hid (Below w.heap.size w (w4.setCell ⟨w.heap.size+1,t,none⟩ v4)):=Y4.out.setCell (by show w.heap.size≤w.heap.size+1;omega) _
     have Z5:Hid (w.heap.size+3≤(w4.setCell ⟨w.heap.size+1,t,none⟩ v4).heap.size):=by simp[World.setCell];exact Z4.out
     rw[hxv]at r4;have HR4:Hid _:=r4;obtain⟨va4,vc4,hv4⟩:=jjbx ho4
     subst hv4;clear ho4 hg4 hn4 hxv r4;refine jjaf (HeldTb (w.heap.size+1+1) (w.heap.size+1) n wr.heap.size t (.slice xa (G t).length xc)) 12 (by kernel_rfl) ?_
     refine jjaa (v:=?v0_1) aZ0 ?y0_1 HS ?r0_1
     case y0_1=>intro wx hx;obtain⟨h1,h2,h3⟩:=hx;go_simp;try (with_reducible rfl)
     simp only[Act.put,sA,sB,sC];refine jjaa (v:=?v1_2) aZ1 ?y1_2 HS ?r1_2
     case y1_2=>intro wx hx;obtain⟨h1,h2,h3⟩:=hx;go_simp;try (with_reducible rfl)
     simp only[Act.put,sA,sB,sC];refine jjaa (v:=?v2_3) aZ2 ?y2_3 HS ?r2_3
     case y2_3=>intro wx hx;obtain⟨h1,h2,h3⟩:=hx;go_simp;try (with_reducible rfl)
     simp only[Act.put,sA,sB,sC];refine jjaa (v:=?v3_4) aZ3 ?y3_4 HS ?r3_4
     case y3_4=>intro wx hx;obtain⟨h1,h2,h3⟩:=hx;go_simp;try (with_reducible rfl)
     simp only[Act.put,sA,sB,sC];refine jjaa (v:=?v4_5) aZ4 ?y4_5 HS ?r4_5
     case y4_5=>intro wx hx;obtain⟨h1,h2,h3⟩:=hx;go_simp;try (with_reducible rfl)
     simp only[Act.put,sA,sB,sC];refine jjaa (v:=?v5_6) aZ5 ?y5_6 HS ?r5_6
     case y5_6=>intro wx hx;obtain⟨h1,h2,h3⟩:=hx;go_simp;try (with_reducible rfl)
     simp only[Act.put,sA,sB,sC];refine jjaa (v:=?v6_7) aZ6 ?y6_7 HS ?r6_7
     case y6_7=>intro wx hx;obtain⟨h1,h2,h3⟩:=hx;go_simp;try (with_reducible rfl)
     simp only[Act.put,sA,sB,sC];refine jjaa (v:=?v7_8) aZ7 ?y7_8 HS ?r7_8
     case y7_8=>intro wx hx;obtain⟨h1,h2,h3⟩:=hx;go_simp;try (with_reducible rfl)
     simp only[Act.put,sA,sB,sC];refine jjaa (v:=?v8_9) aZ8 ?y8_9 HS ?r8_9
     case y8_9=>intro wx hx;obtain⟨h1,h2,h3⟩:=hx;go_simp;try (with_reducible rfl)
     simp only[Act.put,sA,sB,sC];refine jjab aZ9 (fun K hK=>?_)
     go_simp;refine hK _ _ (.inr HSA) ?_
     try simp only[Act.put,sA,sB,sC]
     refine jjab aZ10 (fun K hK=>?_)
     refine jjaw (.tmp 34) (.tmp 36) 36 rfl rfl rfl HR4.out ?_
     refine hK _ _ (.inr HS4) ?_
     try simp only[Act.put,sA,sB,sC]
     refine jjaa (v:=?v11_10) aZ11 ?y11_10 HS4 ?r11_10
     case y11_10=>intro wx hx;obtain⟨h1,h2,h3⟩:=hx;go_simp;try (with_reducible rfl)
     simp only[Act.put,sA,sB,sC];refine jjab aZ12 (fun K hK=>?_)
     go_simp;refine hK _ _ (.inl rfl) (jjad (by kernel_rfl) (NoPanic.normal ?_))
     try simp only[Act.put,sA,sB,sC]
     clear HS HSA HS4 c4 f4;go_wp2;go_roundw
     case rel=>exact ⟨j+1,_,by omega,by go_num,by rw[HT.out];exact T5,X5,Y5,Z5.out⟩
     case measure=>simp [intOf];omega
    ·have hnl:¬ (j:Int)<(L:Int):=by omega
     have HT5:Hid (RowTab wr (w.heap.size+3) (w.heap.size+1) n rows (fillS l (q+1))):=by
      have h9:=htab.out;rw[show j=ar.length by rw[HL.out];omega,List.take_length]at h9;rw[HSU.out];exact h9
     go_wp2;go_roundw
     case rel=>exact ⟨q+1,rows,by omega,by go_num,HT5,hbx,hb,hsz⟩
     case measure=>simp [intOf];omega
  ·have hnl:¬ (q:Int)<(n:Int):=by omega
   have HT5:Hid (RowTab wr (w.heap.size+3) (w.heap.size+1) n rows (fillS l n)):=by
    have h9:=htab.out;rw[show q=n by omega]at h9;exact h9
   go_wp2;go_ret;exact⟨rfl,hbx.out,⟨rows,HT5.out⟩,hb.out⟩
theorem leadsBack_any (B1 B2 n q:Nat)(v:Value)(w:World)(h2:Blk w B2 #[.slice (some ⟨B1,0,none⟩) n n] 78)(h1:w.cell? ⟨B1,q,none⟩=some v)(hq:q<n):
  Calls Tryz.prog 134 #[.int .i64 (q:Int),.pointer (some ⟨B2,0,none⟩)] w fun e w'=>e= .returned v∧w'=w:=by
 have c0:=h2.cell 0 (v:= .slice (some ⟨B1,0,none⟩) n n) rfl;have q0:(0:Int)≤(q:Int):=by omega
 have q1:(q:Int)<(n:Int):=by omega
 go_enter Tryz.func134,Tryz.ntmps134;go_wp2;go_ret;exact⟨rfl,rfl⟩
theorem back_ok (v:Value)(m:Mc)(w:World)(h:Mach w v m)(hok:okM m)(hr:faultM m=0):
  Calls Tryz.prog 40 #[v] w fun e w'=>∃ v',e= .returned (.tuple #[v',.int .i64 0])∧(∃ bs,Bools w' v' bs∧Least (BackC m.2) m.2.length bs)∧Below w.heap.size w w':=by
 obtain⟨z,l⟩:=m
 obtain⟨vs,rfl,hS⟩:=h
 obtain⟨a,cap,rfl⟩:=hS.sl
 have HM:Hid (Mach w (.agg #[.int .i64 z,.slice a l.length cap]) (z,l)):=⟨_,rfl,hS⟩
 have HK:Hid (okM (z,l)):=hok;have HR:Hid (faultM (z,l)=0):=hr;have hz:=(jjax hr).2;simp only[rangeB,Bool.and_eq_true,inB,decide_eq_true_eq]at hz;have HZ:Hid (-1≤z∧z<(l.length:Int)):=⟨hz.1.1,by show z<_;omega⟩
 clear hS hok hr hz;simp only;have hent:=enters_of Tryz.func134 (by kernel_rfl) rfl;generalize hn:l.length=n at *;have HN:Hid (l.length=n):=hn;clear hn;go_enter Tryz.func40,Tryz.ntmps40;go_wp2_with (first
  | (go_at_call 45;(with_reducible refine(jjal _ (z,l) _ (HM.out.later (B:=w.heap.size) (by go_grown) (Nat.le_refl _)) HK.out 0 HR.out).mono ?_);rintro e w1 ⟨rfl,hb⟩;obtain⟨s1,b1,hb1⟩:=boxed hb (by simp);have K0:HeldB w.heap.size z (.slice a n cap) w1:=b1;have HB1:Hid (Below w.heap.size w w1):=hb1;clear b1 hb1 hb))
 have K1:HeldB w.heap.size z (.slice a n cap) w1.drew:=K0.drew;refine jjaf (HeldB w.heap.size z (.slice a n cap)) 1000 (by kernel_rfl) ?_
 refine jjaa (v:=?v0_1) aZ0 ?y0_1 K1 ?r0_1
 case y0_1=>intro wx hx;obtain⟨x0,x1⟩:=hx.two;go_simp;try (with_reducible rfl)
 simp only[Act.put,sA,sB,sC];refine jjaa (v:=?v1_2) aZ1 ?y1_2 K1 ?r1_2
 case y1_2=>intro wx hx;obtain⟨x0,x1⟩:=hx.two;go_simp;try (with_reducible rfl)
 simp only[Act.put,sA,sB,sC];refine jjaa (v:=?v2_3) aZ2 ?y2_3 K1 ?r2_3
 case y2_3=>intro wx hx;obtain⟨x0,x1⟩:=hx.two;go_simp;try (with_reducible rfl)
 simp only[Act.put,sA,sB,sC];refine jjaa (v:=?v3_4) aZ3 ?y3_4 K1 ?r3_4
 case y3_4=>intro wx hx;obtain⟨x0,x1⟩:=hx.two;go_simp;try (with_reducible rfl)
 simp only[Act.put,sA,sB,sC];refine jjaa (v:=?v5_5) aZ5 ?y5_5 K1 ?r5_5
 case y5_5=>intro wx hx;obtain⟨x0,x1⟩:=hx.two;go_simp;try (with_reducible rfl)
 simp only[Act.put,sA,sB,sC];refine jjab aZ4 (fun K hK=>?_)
 go_simp;refine(ends_any z _ l _ (HM.out.later HB1.out.drew (Nat.le_refl _)) (jjae HR.out).1).mono ?_
 rintro e w2 ⟨v2,rfl,ho2,hb2⟩
 rw[HN.out]at ho2;have K2:HeldB w.heap.size z (.slice a n cap) w2:=K1.below hb2 s1;have HB2:Hid (Below w.heap.size w w2):=HB1.out.trans ((jjbm hb2).mono HB1.out.size);have HO2:Hid (w2.ownsRow w1.heap.size 3 1 v2 (endL l n).length ((endL l n).flatMap encI1)):=ho2;have s2:w1.heap.size≤w2.heap.size:=hb2.size;refine hK _ _ (.inr K2) ?_
 try simp only[Act.put,sA,sB,sC]
 clear hb2 ho2 K0 K1;refine jjab aZ6 (fun K hK=>?_)
 go_simp;refine(jjer z _ l _ (HM.out.later HB2.out (Nat.le_refl _)) HR.out).mono ?_
 rintro e w3 ⟨rfl,b3,⟨rows,t3⟩,hb3⟩
 rw[HN.out]at b3 t3;have K3:HeldB w.heap.size z (.slice a n cap) w3:=K2.below hb3 (by omega);have HB3:Hid (Below w.heap.size w w3):=HB2.out.trans (hb3.mono HB2.out.size);have HO3:Hid (w3.ownsRow w1.heap.size 3 1 v2 (endL l n).length ((endL l n).flatMap encI1)):=ownBelow HO2.out hb3;have s3:w2.heap.size≤w3.heap.size:=hb3.size
 have HASK:Hid (AskL 134 #[.pointer (some ⟨w2.heap.size+2,0,none⟩)] (fillS l n) n w3 v2.ownBlock):=by
  refine⟨hent,fun q hq W hW=>?_⟩
  have hne:∀ k,w2.heap.size≤k→some k≠v2.ownBlock:=fun k hk e9=>by have h9:=(HO2.out.lt _ e9.symm).2;omega
  have hT:Blk W (w2.heap.size+1) rows.toArray 36:=t3.blk.grown hW (hne _ (by omega));have hrow:W.ownsRow (w2.heap.size+3) 3 1 (el rows q) (fillS l n q).length ((fillS l n q).flatMap encI1):=(t3.row q hq).kept hW (by
   cases e9:(el rows q).ownBlock with
   | none=>exact .inl rfl
   | some k=>exact .inr (hne k (by have h9:=((t3.row q hq).lt k e9).1;omega)))
  refine(leadsBack_any (w2.heap.size+1) (w2.heap.size+2) n q (el rows q) W (b3.grown hW (hne _ (by omega))) (by
   refine hT.cell _ ?_
   have h9:=t3.len
   rw[List.getElem?_toArray,jjaj (by omega),List.getElem?_eq_getElem (by omega)]) hq).mono ?_
  rintro e w' ⟨rfl,rfl⟩
  exact⟨_,rfl,Row.ofOwn jjbg hrow rfl,Below.refl _ _⟩
 refine hK _ _ (.inr K3) ?_
 try simp only[Act.put,sA,sB,sC]
 clear hb3 b3 t3 K2;refine jjab aZ7 (fun K hK=>?_)
 go_simp;refine(spread_any n v2 (endL l n) _ _ (fillS l n) w1.heap.size w3 HO3.out (by omega) (by have h9:=(jjae HR.out).1;rw[HN.out]at h9;exact h9) (fun x hx=>by
   obtain⟨q,rfl,h9,_⟩:=endL_mem.1 hx
   omega) (by have h8:=endL_le l n;have h9:=(jjae HR.out).1;rw[HN.out]at h9;omega) HASK.out (fun q hq y hy=>by
   obtain⟨p,rfl,h9,_⟩:=fillS_mem.1 hy
   omega) (fun q hq=>by
   have h8:=(jjae HR.out).2
   have h9:=fillS_len l n q (by rw[HN.out];exact Nat.le_refl _)
   rw[← HN.out,List.take_length,HN.out]at h9
   omega)).mono ?_
 rintro e w4 ⟨v4,rfl,⟨bs,hB4,hL4⟩,hg4⟩
 have K4:HeldB w.heap.size z (.slice a n cap) w4:=K3.grown hg4 (fun e9=>by have h9:=(HO2.out.lt _ e9.symm).1;omega);have HB4:Hid (Below w.heap.size w w4):=HB3.out.trans (gBelow hg4 (fun k hk=>Nat.le_trans (by omega) (HO2.out.lt k hk).1) HB3.out.size);have HL4:Hid (Least (BackC l) n bs):=hL4.iff (fun T=>by
  have h9:=back_spread (l:=l) (fun q hq c hc=>by
   have h8:=List.all_eq_true.1 (jjbv HR.out hq).2 c hc
   simp only[arcB,inB,Bool.and_eq_true,decide_eq_true_eq]at h8
   exact⟨c.2.2.2.toNat,by omega,by omega⟩) T
  rw[HN.out]at h9
  exact h9)
 have HBB:Hid (Bools w4 v4 bs):=hB4;refine hK _ _ (.inr K4) ?_
 try simp only[Act.put,sA,sB,sC]
 clear hB4 hL4 hg4 K3;refine jjab aZ8 (fun K hK=>?_)
 go_simp;refine hK _ _ (.inr K4) ?_
 try simp only[Act.put,sA,sB,sC]
 refine jjab aZ9 (fun K hK=>?_)
 go_simp;refine hK _ _ (.inr K4) (jjad (by kernel_rfl) (NoPanic.normal ?_))
 try simp only[Act.put,sA,sB,sC]
 clear K4;go_wp2;exact bodyPost_ret (v:= .tuple #[v4,.int .i64 0]) (by simp[results,Tryz.results40,go_sem]) rfl ⟨_,rfl,⟨bs,HBB.out,HL4.out⟩,HB4.out⟩
end Wt
namespace Pl
theorem kept_prefix (a b:List Bool){q n:Nat}(h:q≤n):∃ rest,keptL a b n=keptL a b q++rest:=by
  induction n with
  | zero=>
    obtain rfl:q=0:=by omega
    exact⟨[],by simp⟩
  | succ n ih=>
    by_cases e:q=n+1
    · subst e;exact⟨[],by simp⟩
    · obtain⟨r,hr⟩:=ih (by omega)
      exact⟨_,by rw[jjcq,hr,List.append_assoc]⟩
theorem place_kept {a b:List Bool}{q n:Nat}(h:q<n)(ha:el a q=true)(hb:el b q=true):placeI (keptL a b n) (q:Int)=((keptL a b q).length:Int):=by
 obtain⟨r,hr⟩:=kept_prefix a b (q:=q+1) (n:=n) (by omega)
 rw[jjcq,ha,hb]at hr;simp only[Bool.and_self,if_true,List.append_assoc,List.singleton_append]at hr;have hlt:(keptL a b q).length<(keptL a b n).length:=by rw[hr];simp
 have:=jjc9 (jja4 a b n) hlt;rw[hr]at this;rw[el_right (Nat.le_refl _),Nat.sub_self,jjbj,← hr]at this;exact this
theorem place_left {a b:List Bool}{q n:Nat}(h:¬ (el a q=true∧el b q=true)):placeI (keptL a b n) (q:Int)= -1:=jjcb (fun h9=>h (keptL_iff.1 h9).2)
theorem place_ge (ks:List Int)(x:Int): -1≤placeI ks x:=by
 have:∀ (l:List Int) (i:Nat), -1≤placeL' x i l:=fun l=>by
  induction l with
  | nil=>intro i;simp[placeL']
  | cons k l ih=>intro i;rw[placeL'];split;omega;exact ih _
 exact this ks 0
end Pl
namespace Wt
open ChangeShapes WideShapes ChangeAt RowKit Pl
theorem numbered_any (v1 v2:Value)(aa bs:List Bool)(n:Nat)(w:World)(h1:Bools w v1 aa)(h2:Bools w v2 bs)(hA:aa.length=n)(hB:bs.length=n)(h60:n≤60):
  Calls Tryz.prog 42 #[v1,v2] w fun e w'=>∃ v',e= .returned v'∧(∃ ns,Nums w' v' ns∧ns.length=n∧∀ j,j<n→el ns j=placeI (keptL aa bs n) (j:Int))∧Below w.heap.size w w':=by
 obtain⟨xa,ca,hva,hca⟩:=h1.get
 obtain⟨xb,cb,hvb,hcb⟩:=h2.get
 rw[hA]at hva hca;rw[hB]at hvb hcb;have HCA:Hid (∀ j,j<n→∃ b off,xa=some ⟨b,off,none⟩∧b<w.heap.size∧w.cell? ⟨b,off+j,none⟩=some (.bool (el aa j))):=hca;have HCB:Hid (∀ j,j<n→∃ b off,xb=some ⟨b,off,none⟩∧b<w.heap.size∧w.cell? ⟨b,off+j,none⟩=some (.bool (el bs j))):=hcb;subst hva hvb;clear h1 h2 hca hcb hA hB;have hmk:=jjdd n (by omega);go_enter Tryz.func42,Tryz.ntmps42;go_wp2
 go_loopw [6,13] (fun s6 i wr=>∃ (q:Nat) (ns:List Int),q≤n∧s6= .int .i64 ((keptL aa bs q).length:Int)∧i= .int .i64 q∧Hid (ns.length=n∧∀ j,j<q→el ns j=placeI (keptL aa bs n) (j:Int))∧Hid (Blk wr w.heap.size (ns.map (Value.int .i64)).toArray 3)∧Hid (Below w.heap.size w wr)) (fun _ i _=>n-(intOf i).toNat)
 case atStart=>exact ⟨0,List.replicate n (0:Int),Nat.zero_le _,rfl,rfl,⟨by simp,fun j hj=>absurd hj (Nat.not_lt_zero _)⟩,by (show Blk _ _ _ _);rw[show (List.map (Value.int .i64) (List.replicate n 0)).toArray=Array.replicate n (Value.int .i64 0) from by simp];exact Blk.made _ _ _,(Below.refl _ _).alloc (Nat.le_refl _) _⟩
 case round=>
  obtain⟨q,ns,hq,rfl,rfl,hns,hblk,hb⟩:=hrel
  by_cases hqn:q<n
  ·obtain ⟨ba,oa,rfl,hbal,g0⟩:=HCA.out q hqn
   obtain⟨bb,ob,rfl,hbbl,g1⟩:=HCB.out q hqn
   have g0:=(hb.out.cell (p:=⟨ba,oa+q,none⟩) hbal).trans g0;have g1:=(hb.out.cell (p:=⟨bb,ob+q,none⟩) hbbl).trans g1;have hl:=hns.out.1;have y0:=jjba hblk.out (j:=q) (by omega);have y1:=hblk.out.fz q;have HKS:=jjcq aa bs q;have hkl:=jjd6 aa bs q;have hq0:(0:Int)≤(q:Int):=by omega
   have hq1:(q:Int)<(n:Int):=by omega
   have B1:Hid (Blk (wr.setCell ⟨w.heap.size,q,none⟩ (.int .i64 (-1))) w.heap.size ((ns.set q (-1)).map (Value.int .i64)).toArray 3):=by have h9:=hblk.out.set q (.int .i64 (-1));rw[jjcc]at h9;exact h9
   have Y1:Hid (Below w.heap.size w (wr.setCell ⟨w.heap.size,q,none⟩ (.int .i64 (-1)))):=hb.out.setCell (Nat.le_refl _) _;by_cases hk:el aa q=true∧el bs q=true
   ·have HE:Hid ((keptL aa bs (q+1)).length=(keptL aa bs q).length+1):=by show _=_;rw[HKS,hk.1,hk.2];simp
    have HP:Hid (placeI (keptL aa bs n) (q:Int)=((keptL aa bs q).length:Int)):=place_kept hqn hk.1 hk.2;rw[hk.1]at g0;rw[hk.2]at g1;clear HKS hk;generalize (keptL aa bs q).length=K at *
    have B2:Hid (Blk ((wr.setCell ⟨w.heap.size,q,none⟩ (.int .i64 (-1))).setCell ⟨w.heap.size,q,none⟩ (.int .i64 (K:Int))) w.heap.size (((ns.set q (-1)).set q (K:Int)).map (Value.int .i64)).toArray 3):=by have h9:=B1.out.set q (.int .i64 (K:Int));rw[jjcc]at h9;exact h9
    have Y2:Hid (Below w.heap.size w ((wr.setCell ⟨w.heap.size,q,none⟩ (.int .i64 (-1))).setCell ⟨w.heap.size,q,none⟩ (.int .i64 (K:Int)))):=Y1.out.setCell (Nat.le_refl _) _;have HN2:Hid (((ns.set q (-1)).set q (K:Int)).length=n∧∀ j,j<q+1→el ((ns.set q (-1)).set q (K:Int)) j=placeI (keptL aa bs n) (j:Int)):=by
     refine⟨by simpa using hl,fun j hj=>?_⟩
     rw[el_setN (by simpa [hl] using hqn)];by_cases e:j=q
     ·subst e;rw[if_pos rfl,HP.out]
     ·rw [if_neg e,el_setN (by omega),if_neg e];exact hns.out.2 j (by omega)
    have y2:=jjba B1.out (j:=q) (by simpa [hl] using hqn);have y3:=B1.out.fz q;have hba:ba≠w.heap.size:=by omega
    have hbb:bb≠w.heap.size:=by omega
    clear hns hblk hb;go_wp2;go_roundw
    case rel=>exact ⟨q+1,_,by omega,by rw[HE.out];go_num,by go_num,HN2,B2,Y2⟩
    case measure=>simp [intOf];omega
   ·have HE:Hid ((keptL aa bs (q+1)).length=(keptL aa bs q).length):=by
     show _=_;rw[HKS,if_neg (by simpa using hk),List.append_nil]
    have HP:Hid (placeI (keptL aa bs n) (q:Int)= -1):=place_left hk;have HN2:Hid ((ns.set q (-1)).length=n∧∀ j,j<q+1→el (ns.set q (-1)) j=placeI (keptL aa bs n) (j:Int)):=by
     refine⟨by simpa using hl,fun j hj=>?_⟩
     rw[el_setN (by omega)];by_cases e:j=q
     ·subst e;rw[if_pos rfl,HP.out]
     ·rw [if_neg e];exact hns.out.2 j (by omega)
    have hba:ba≠w.heap.size:=by omega
    have hbb:bb≠w.heap.size:=by omega
    rcases jjam (el aa q)with e1 | e1
    ·rcases jjam (el bs q)with e2 | e2
     ·exact absurd ⟨e1,e2⟩ hk
     ·rw [e1]at g0
      rw[e2]at g1;clear HKS hk e1 e2 hns hblk hb;generalize (keptL aa bs q).length=K at *;go_wp2;go_roundw
      case rel=>exact ⟨q+1,_,by omega,by rw[HE.out],by go_num,HN2,B1,Y1⟩
      case measure=>simp [intOf];omega
    ·rw [e1]at g0
     clear HKS hk e1 hns hblk hb g1;generalize (keptL aa bs q).length=K at *;go_wp2;go_roundw
     case rel=>exact ⟨q+1,_,by omega,by rw[HE.out],by go_num,HN2,B1,Y1⟩
     case measure=>simp [intOf];omega
  ·have hnl:¬ (q:Int)<(n:Int):=by omega
   have HNF:Hid (Nums wr (.slice (some ⟨w.heap.size,0,none⟩) n n) ns∧ns.length=n∧∀ j,j<n→el ns j=placeI (keptL aa bs n) (j:Int)):=by
    have h9:=jjef (cap:=n) hblk.out;rw[hns.out.1]at h9;exact⟨h9,hns.out.1,fun j hj=>hns.out.2 j (by omega)⟩
   clear hns hblk;go_wp2;go_ret;exact⟨_,rfl,⟨ns,HNF.out⟩,hb.out⟩
end Go.Proofs.YtppkiejhhmahcaaGreatDoor.Wt
