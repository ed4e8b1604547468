/- Facts, joined. -/
import Derived.Test.YtppkiejhhmahcaaGreatDoorSal
set_option linter.unusedSimpArgs false
set_option linter.unusedVariables false
set_option maxHeartbeats 6400000
set_option maxRecDepth 100000
namespace Go.Proofs.YtppkiejhhmahcaaGreatDoor.Wt
open ChangeShapes WideShapes ChangeAt RowKit Pl
def rowV (n g:Nat):Value:= .slice (some ⟨g,0,none⟩) n n
structure GridP (w:World)(base n G:Nat)(gs:List Nat)(d:List (List Int)):Prop where
 len:gs.length=d.length
 few:gs.length≤n
 blk:Blk w G (gs.map (rowV n)++List.replicate (n-gs.length) (Value.slice none 0 0)).toArray 36
 low:base≤G
 row:∀ j,j<gs.length→base≤el gs j∧(el d j).length=n∧Blk w (el gs j) ((rowA (el d j)).map (Value.int .i64)).toArray 3
 apt:∀ i j,i<gs.length→j<gs.length→i≠j→el gs i≠el gs j
theorem GridP.ne {w:World}{base n G:Nat}{gs:List Nat}{d:List (List Int)}(h:GridP w base n G gs d){j:Nat}(hj:j<gs.length):G≠el gs j:=fun e=>by
 have h1:=h.blk;have h2:=(h.row j hj).2.2;rw[← e]at h2;unfold Blk at h1 h2;rw[h1]at h2;simp at h2
theorem GridP.keep {w w':World}{base n G:Nat}{gs:List Nat}{d:List (List Int)}(h:GridP w base n G gs d)(e:∀ k,base≤k→k<w.heap.size→w'.heap[k]? =w.heap[k]?):GridP w' base n G gs d:=
 ⟨h.len,h.few,h.blk.keep (e _ h.low h.blk.lt),h.low,fun j hj=>⟨(h.row j hj).1,(h.row j hj).2.1,(h.row j hj).2.2.keep (e _ (h.row j hj).1 (h.row j hj).2.2.lt)⟩,h.apt⟩
theorem GridP.later {w w':World}{base n G:Nat}{gs:List Nat}{d:List (List Int)}(h:GridP w base n G gs d)(hb:Below w.heap.size w w'):GridP w' base n G gs d:=h.keep fun k _ hk=>hb.block k hk
theorem GridP.rowc {w:World}{base n G:Nat}{gs:List Nat}{d:List (List Int)}(h:GridP w base n G gs d){q:Nat}(hq:q<d.length):w.cell? ⟨G,q,none⟩=some (.slice (some ⟨el gs q,0,none⟩) n n):=by
 have hq':q<gs.length:=by rw[h.len];exact hq
 refine h.blk.cell _ ?_
 rw[List.getElem?_toArray,List.getElem?_append_left (by simpa using hq')];simp[hq',el,rowV]
theorem GridP.get {w:World}{base n G:Nat}{gs:List Nat}{d:List (List Int)}(h:GridP w base n G gs d){q p:Nat}(hq:q<d.length)(hp:p<n):w.cell? ⟨el gs q,p,none⟩=some (.int .i64 (toA (el (el d q) p))):=by
 obtain⟨_,hl,hb⟩:=h.row q (by rw[h.len];exact hq)
 have:=jjba hb (j:=p) (by rw[rowA_len,hl];exact hp);rw[el_rowA (by rw[hl];exact hp)]at this;exact this
theorem GridP.fz {w:World}{base n G:Nat}{gs:List Nat}{d:List (List Int)}(h:GridP w base n G gs d){q:Nat}(hq:q<d.length)(p:Nat):w.frozen? ⟨el gs q,p,none⟩=false:=(h.row q (by rw[h.len];exact hq)).2.2.fz p
theorem GridP.put {w:World}{base n G:Nat}{gs:List Nat}{d:List (List Int)}(h:GridP w base n G gs d){q p:Nat}(hq:q<d.length)(hp:p<n)(x:Int):GridP (w.setCell ⟨el gs q,p,none⟩ (.int .i64 (toA x))) base n G gs (putD d q p x):=by
 have hqg:q<gs.length:=by rw[h.len];exact hq
 have hbq:=(h.row q hqg).2.2;refine⟨by unfold putD;rw[List.length_set];exact h.len,h.few,h.blk.setO _ _ (h.ne hqg),h.low,fun j hj=>?_,h.apt⟩
 unfold putD;rw[el_set (by rw[← h.len];exact hj)];by_cases e:q=j
 ·subst e
  rw[if_pos rfl];refine⟨(h.row q hj).1,by rw[List.length_set];exact(h.row q hj).2.1,?_⟩
  have h9:=hbq.set p (.int .i64 (toA x));rw[jjcc,rowA_set]at h9;exact h9
 ·rw [if_neg e]
  exact⟨(h.row j hj).1,(h.row j hj).2.1,(h.row j hj).2.2.setO _ _ (h.apt j q hj hqg (Ne.symm e))⟩
theorem GridP.lay {w:World}{base n G g:Nat}{gs:List Nat}{d:List (List Int)}{r:List Int}(h:GridP w base n G gs d)(hl:gs.length<n)(hg:Blk w g ((rowA r).map (Value.int .i64)).toArray 3)(hr:r.length=n)(hb:base≤g)(hn:∀ j,j<gs.length→el gs j≠g):GridP (w.setCell ⟨G,gs.length,none⟩ (.slice (some ⟨g,0,none⟩) n n)) base n G (gs++[g]) (d++[r]):=by
 have hGg:G≠g:=fun e=>by
  have h1:=h.blk;rw[← e]at hg;unfold Blk at h1 hg;rw[h1]at hg;simp at hg
 refine⟨by simp[h.len],by simp;omega,?_,h.low,fun j hj=>?_,fun i j hi hj hij=>?_⟩
 ·have h9:=h.blk.set gs.length (.slice (some ⟨g,0,none⟩) n n)
  have e1:n-gs.length=(n-(gs++[g]).length)+1:=by simp;omega
  have e2:(gs.map (rowV n)++List.replicate (n-gs.length) (Value.slice none 0 0)).toArray.setIfInBounds gs.length (.slice (some ⟨g,0,none⟩) n n)=((gs++[g]).map (rowV n)++List.replicate (n-(gs++[g]).length) (Value.slice none 0 0)).toArray:=by
   rw[e1,List.replicate_succ];simp[rowV,List.set_append]
  rw[e2]at h9;exact h9
 ·rw [List.length_append]at hj
  simp at hj;by_cases e:j<gs.length
  ·rw [jjbc e,jjbc (by rw[← h.len];exact e)]
   exact⟨(h.row j e).1,(h.row j e).2.1,(h.row j e).2.2.setO _ _ (Ne.symm (h.ne e))⟩
  ·obtain rfl:j=gs.length:=by omega
   rw[jjbu,h.len,jjbu];exact⟨hb,hr,hg.setO _ _ (Ne.symm hGg)⟩
 ·rw [List.length_append]at hi hj
  simp at hi hj;by_cases ei:i<gs.length
  ·by_cases ej:j<gs.length
   ·rw [jjbc ei,jjbc ej];exact h.apt i j ei ej hij
   ·obtain rfl:j=gs.length:=by omega
    rw[jjbc ei,jjbu];exact hn i ei
  ·obtain rfl:i=gs.length:=by omega
   have ej:j<gs.length:=by omega
   rw[jjbu,jjbc ej];exact Ne.symm (hn j ej)
def HeldSb (g k p:Nat)(x y:Int)(w:World):Prop:=w.cell? ⟨g,p,none⟩=some (.int .i64 x)∧w.cell? ⟨k,p,none⟩=some (.int .i64 y)
theorem shorten_any (m:Mc)(hr:faultM m=0)(k q base G:Nat)(gs:List Nat)(d:List (List Int))(w:World)(hk:k<m.2.length)(hq:q<m.2.length)(hF:FwQ m.2 k q 0 d)(hG:GridP w base m.2.length G gs d):
  Calls Tryz.prog 91 #[.slice (some ⟨el gs q,0,none⟩) m.2.length m.2.length,.slice (some ⟨el gs k,0,none⟩) m.2.length m.2.length,.int .i64 (toA (el (el d q) k))] w fun e w'=>e= .returned (.tuple #[])∧(∃ d',FwQ m.2 k q m.2.length d'∧GridP w' base m.2.length G gs d')∧Below base w w':=by
 have h60:m.2.length≤60:=(jjae (z:=m.1) (l:=m.2) hr).1;have hx:=fw_first hr hF hk hq;obtain⟨x,hxe⟩:∃ x,el (el d q) k=x:=⟨_,rfl⟩
 rw[hxe]at hx ⊢;have hxb:=hx.bd (by omega);have HPU:Hid (∀ p d,FwQ m.2 k q p d→p<m.2.length→FwQ m.2 k q (p+1) (putD d q p (newV x (el (el d k) p) (el (el d q) p)))):=fun p d h hp=>fw_put hr h hx hk hq hp
 have HBD:Hid (∀ p d,FwQ m.2 k q p d→∀ q' p',q'<m.2.length→p'<m.2.length→0≤el (el d q') p'∧(el (el d q') p'=noneI∨el (el d q') p'≤61000000000)):=fun p d h q' p' h1 h2=>h.bd hr hk h1 h2
 have HFL:Hid (∀ p d,FwQ m.2 k q p d→d.length=m.2.length):=fun p d h=>h.1
 have HF:=hidP hF;have HG:=hidP hG;have hXA:=toA_bd hxb;have HXB:=hidP hxb;clear hxe hx hr hF hG hxb;generalize m.2.length=n at *;generalize m.2=l at *;clear m;generalize hgq:el gs q=Bq at *;generalize hgk:el gs k=Bk at *;have HGQ:=hidP hgq;have HGK:=hidP hgk;clear hgq hgk;obtain⟨xa,hxa⟩:∃ xa,toA x=xa:=⟨_,rfl⟩
 have HXA:=hidP hxa;rw[hxa]at hXA ⊢;clear hxa;obtain⟨xa0,xa1⟩:=hXA
 go_enter Tryz.func91,Tryz.ntmps91;go_wp2;go_loopw [9] (fun i wi=>∃ (p:Nat) (d:List (List Int)),p≤n∧i= .int .i64 p∧Hid (FwQ l k q p d)∧Hid (GridP wi base n G gs d)∧Hid (Below base w wi)) (fun i _=>n-(intOf i).toNat)
 case atStart=>exact ⟨0,d,Nat.zero_le _,rfl,HF,HG,Below.refl _ _⟩
 case round=>
  clear HF HG d;obtain⟨p,d,hp,rfl,hF,hG,hb⟩:=hrel
  obtain⟨w5,hw5⟩:∃ w5,w5=wr:=⟨_,rfl⟩
  subst hw5;by_cases hpl:p<n
  ·have p0:(0:Int)≤(p:Int):=by omega
   have p1:(p:Int)<(n:Int):=by omega
   have hdl:d.length=n:=HFL.out p d hF.out;have c2:=hG.out.get (q:=k) (p:=p) (by omega) hpl;have c3:=hG.out.get (q:=q) (p:=p) (by omega) hpl;have f3:=hG.out.fz (q:=q) (by omega) p;have r2:=HBD.out p d hF.out k p hk hpl;have r3:=HBD.out p d hF.out q p hq hpl;have HNE:=hidP (HPU.out p d hF.out hpl);have HNV:=hidP (toA_new HXB.out r2 r3)
   have HGS:=hidP (hG.out.put (q:=q) (p:=p) (by omega) hpl (newV x (el (el d k) p) (el (el d q) p)));have hGq:base≤el gs q:=(hG.out.row q (by rw[hG.out.len];omega)).1;have h2A:=toA_bd r2;rw[HGQ.out]at c3 f3 HGS hGq;rw[HGK.out]at c2;rw[HXA.out]at HNV;clear r2 r3;generalize newV x (el (el d k) p) (el (el d q) p)=x4 at *;generalize toA (el (el d k) p)=y2 at *;generalize toA (el (el d q) p)=y3 at *
   obtain⟨y20,y21⟩:=h2A
   have hwr:IntKind.i64.wrap (xa+y2)=xa+y2:=wrapI (by omega) (by omega);have HB2:=hidP (hb.out.setCell (p:=⟨Bq,p,none⟩) (by show base≤Bq;omega) (.int .i64 (toA x4)));go_wp2;have HS:HeldSb Bq Bk p y3 y2 w5.drew:=⟨c3,c2⟩
   refine jjaf (HeldSb Bq Bk p y3 y2) 14 (by kernel_rfl) ?_
   refine jjaa (v:=?v0_1) aZ0 ?y0_1 HS ?r0_1
   case y0_1=>intro wx hx;obtain⟨h0,h1⟩:=hx;go_simp;try (with_reducible rfl)
   simp only[Act.put,sA,sB,sC];refine jjaa (v:=?v1_2) aZ1 ?y1_2 HS ?r1_2
   case y1_2=>intro wx hx;obtain⟨h0,h1⟩:=hx;go_simp;try (with_reducible rfl)
   simp only[Act.put,sA,sB,sC];refine jjaa (v:=?v2_3) aZ2 ?y2_3 HS ?r2_3
   case y2_3=>intro wx hx;obtain⟨h0,h1⟩:=hx;go_simp;try (with_reducible rfl)
   simp only[Act.put,sA,sB,sC];refine jjaa (v:=?v3_4) aZ3 ?y3_4 HS ?r3_4
   case y3_4=>intro wx hx;obtain⟨h0,h1⟩:=hx;go_simp;try (with_reducible rfl)
   simp only[Act.put,sA,sB,sC];refine jjaa (v:=?v4_5) aZ4 ?y4_5 HS ?r4_5
   case y4_5=>intro wx hx;obtain⟨h0,h1⟩:=hx;go_simp;try (with_reducible rfl)
   simp only[Act.put,sA,sB,sC];refine jjaa (v:=?v5_6) aZ5 ?y5_6 HS ?r5_6
   case y5_6=>intro wx hx;obtain⟨h0,h1⟩:=hx;go_simp;try (with_reducible rfl)
   simp only[Act.put,sA,sB,sC];refine jjaa (v:=?v6_7) aZ6 ?y6_7 HS ?r6_7
   case y6_7=>intro wx hx;obtain⟨h0,h1⟩:=hx;go_simp;try (with_reducible rfl)
   simp only[Act.put,sA,sB,sC];refine jjaa (v:=?v7_8) aZ7 ?y7_8 HS ?r7_8
   case y7_8=>intro wx hx;obtain⟨h0,h1⟩:=hx;go_simp;try (with_reducible rfl)
   simp only[Act.put,sA,sB,sC];refine jjaa (v:=?v8_9) aZ8 ?y8_9 HS ?r8_9
   case y8_9=>intro wx hx;obtain⟨h0,h1⟩:=hx;go_simp;try (with_reducible rfl)
   simp only[Act.put,sA,sB,sC];refine jjaa (v:=?v9_10) aZ9 ?y9_10 HS ?r9_10
   case y9_10=>intro wx hx;obtain⟨h0,h1⟩:=hx;go_simp;try (with_reducible rfl)
   simp only[Act.put,sA,sB,sC];refine jjaa (v:=?v10_11) aZ10 ?y10_11 HS ?r10_11
   case y10_11=>intro wx hx;obtain⟨h0,h1⟩:=hx;go_simp;try (with_reducible rfl)
   simp only[Act.put,sA,sB,sC];refine jjaa (v:=?v11_12) aZ11 ?y11_12 HS ?r11_12
   case y11_12=>intro wx hx;obtain⟨h0,h1⟩:=hx;go_simp;try (with_reducible rfl)
   simp only[Act.put,sA,sB,sC];refine jjaa (v:= .int .i64 (toA x4)) aZ12 ?y12_14 HS ?r12_14
   case y12_14=>intro wx hx;obtain⟨h0,h1⟩:=hx;go_simp;rw[HNV.out]
   simp only[Act.put,sA,sB,sC];refine jjaa (v:=?v13_13) aZ13 ?y13_13 HS ?r13_13
   case y13_13=>intro wx hx;obtain⟨h0,h1⟩:=hx;go_simp;try (with_reducible rfl)
   simp only[Act.put,sA,sB,sC];refine jjab aZ14 (fun K hK=>?_)
   go_simp;refine hK _ _ (.inl rfl) (jjad (by kernel_rfl) (NoPanic.normal ?_))
   try simp only[Act.put,sA,sB,sC]
   clear HS;go_wp2;go_roundw
   case rel=>exact ⟨p+1,_,by omega,by go_num,HNE,HGS.out.later ((Below.refl _ _).drew),HB2.out.drew⟩
   case measure=>simp [intOf];omega
  ·have p1:¬ (p:Int)<(n:Int):=by omega
   obtain rfl:n=p:=by omega
   go_wp2;go_end0;exact⟨rfl,⟨d,hF.out,hG.out⟩,hb.out⟩
theorem infoRowP :(Tryz.prog.info? 36).map (fun i=>(i.zero,i.size,i.bytes))=some (some (.slice none 0 0),1,24):=by kernel_rfl
theorem made_rowsP (n:Nat):madeCells (Value.cells (.slice none 0 0)) (n*1)=(List.replicate n (Value.slice none 0 0)).toArray:=by
 have hz:Value.cells (.slice none 0 0)= #[.slice none 0 0]:=rfl;apply Array.ext_getElem?
 intro t;simp only[madeCells,hz,Array.getElem?_map];by_cases ht:t<n
 ·simp [ht,Nat.mod_one]
 ·simp [ht]
theorem run_rowsP (n:Nat)(hn:n≤1000)(W:World):(Instr.makeSlice 78 (.int .i64 (n:Int)) (.int .i64 (n:Int))).run Tryz.prog W= .ok (.slice (some ⟨W.heap.size,0,none⟩) n n) (W.alloc (.cells (List.replicate n (Value.slice none 0 0)).toArray 36)):=by
 obtain⟨i1,hi1,hy0,hy1,hy2⟩:=info_parts infoRowP
 have h:=run_make (P:=Tryz.prog) W 78 36 i1 _ Tryz.underlying78 hi1 hy0 .i64 .i64 n n (by omega) (by omega) (by rw[hy2];omega) (by omega);rw[hy1,Int.toNat_natCast,made_rowsP]at h;exact h
theorem GridP.made (w:World)(base n:Nat)(hb:base≤w.heap.size):GridP (w.alloc (.cells (Array.replicate n (Value.slice none 0 0)) 36)) base n w.heap.size [] []:=
 ⟨rfl,Nat.zero_le _,(by have:=Blk.made w (Array.replicate n (Value.slice none 0 0)) 36;simpa using this),hb,fun j hj=>absurd hj (by simp),fun i j hi=>absurd hi (by simp)⟩
def HeldT2c (G q:Nat)(vq:Value)(k:Nat)(vk:Value)(w:World):Prop:=w.cell? ⟨G,q,none⟩=some vq∧w.cell? ⟨G,k,none⟩=some vk
theorem hopsOf_any (z:Int)(l:List St)(a:Option Addr)(cap:Nat)(w:World)(h:Mach w (.agg #[.int .i64 z,.slice a l.length cap]) (z,l))(hr:faultM (z,l)=0):
  Calls Tryz.prog 46 #[.agg #[.int .i64 z,.slice a l.length cap]] w fun e w'=>e= .returned (.slice (some ⟨w.heap.size+1,0,none⟩) l.length l.length)∧(∃ gs d,GridP w' (w.heap.size+1) l.length (w.heap.size+1) gs d∧d.length=l.length∧HopT (z,l) (fun q p=>el (el d q) p))∧Below w.heap.size w w':=by
 obtain⟨vs',hvs,hS⟩:=h
 simp only[Value.agg.injEq,Array.mk.injEq,List.cons.injEq,and_true,true_and]at hvs;subst hvs;obtain⟨a',cap',hsl,hc⟩:=hS.get
 simp only[Value.slice.injEq,true_and]at hsl;obtain⟨rfl,rfl⟩:=hsl
 have h60:l.length≤60:=(jjae hr).1;have HC:Hid (∀ j,j<l.length→∃ b off va,a=some ⟨b,off,none⟩∧b<w.heap.size∧w.cell? ⟨b,off+j*2,none⟩=some (.int .i64 (el l j).1)∧w.cell? ⟨b,off+j*2+1,none⟩=some va∧Arcs w va (el l j).2):=hc
 have HFH:Hid (∀ q f va (W:World),q<l.length→Arcs W va (el l q).2→Calls Tryz.prog 90 #[.int .i64 (q:Int),.agg #[.int .i64 f,va],.int .i64 (l.length:Int)] W fun e w'=>e= .returned (.slice (some ⟨W.heap.size+1,0,none⟩) l.length l.length)∧(∃ row,RowI l q (el l q).2.length row∧Blk w' (W.heap.size+1) ((rowA row).map (Value.int .i64)).toArray 3)∧Below W.heap.size W w'):=fun q f va W hq hA=>firstHops_any z l q f va W hr hq hA
 have HSH:Hid (∀ k q base G gs d (W:World),k<l.length→q<l.length→FwQ l k q 0 d→GridP W base l.length G gs d→Calls Tryz.prog 91 #[.slice (some ⟨el gs q,0,none⟩) l.length l.length,.slice (some ⟨el gs k,0,none⟩) l.length l.length,.int .i64 (toA (el (el d q) k))] W fun e w'=>e= .returned (.tuple #[])∧(∃ d',FwQ l k q l.length d'∧GridP w' base l.length G gs d')∧Below base W w'):=fun k q base G gs d W hk hq hF hG=>shorten_any (z,l) hr k q base G gs d W hk hq hF hG
 have HFS:Hid (∀ d,RowsT l l.length d→FwQ l 0 0 0 d):=fun d hd=>fw_start (m:=(z,l)) hr hd
 have HFE:Hid (∀ d,FwQ l l.length 0 0 d→HopT (z,l) (fun q p=>el (el d q) p)):=fun d hd=>fw_end hr hd
 have HF3:Hid (∀ k q d,FwQ l k q l.length d→FwQ l k (q+1) 0 d):=fun k q d hd=>fw_row hd
 have HF4:Hid (∀ k d,FwQ l k l.length 0 d→FwQ l (k+1) 0 0 d):=fun k d hd=>fw_round hd
 have HFL:Hid (∀ k q p d,FwQ l k q p d→d.length=l.length):=fun k q p d hd=>hd.1
 have HRN:Hid (∀ q d row,RowsT l q d→RowI l q (el l q).2.length row→RowsT l (q+1) (d++[row])):=fun q d row h g=>rowsT_snoc h g
 have HRL:Hid (∀ q row,RowI l q (el l q).2.length row→row.length=l.length):=fun q row h=>h.1
 clear hS hc hr;generalize HopT (z,l)=HT at *;generalize hn:l.length=n at *;clear hn;have hmk:=run_rowsP n (by omega);go_enter Tryz.func46,Tryz.ntmps46;go_wp2;clear hmk
 go_loopw [15] (fun i wr=>∃ (q:Nat) (gs:List Nat) (d:List (List Int)),q≤n∧i= .int .i64 q∧Hid (gs.length=q)∧Hid (GridP wr (w.heap.size+1) n (w.heap.size+1) gs d)∧Hid (RowsT l q d)∧Hid (Blk wr w.heap.size #[.int .i64 z,.slice a n cap] 24)∧Hid (Below w.heap.size w wr)) (fun i _=>n-(intOf i).toNat)
 case atStart=>exact ⟨0,[],[],Nat.zero_le _,rfl,rfl,(by have:=GridP.made (w.alloc (.cells #[.int .i64 z,.slice a n cap] 24)) (w.heap.size+1) n (by simp);rw[World.size_alloc]at this;exact this),⟨rfl,fun q hq=>absurd hq (by omega)⟩,(Blk.made _ _ _).alloc _,((Below.refl _ _).alloc (Nat.le_refl _) _).alloc (by simp) _⟩
 case round=>
  obtain⟨q,gs,d,hq,rfl,hgl,hG,hR,hK,hb⟩:=hrel
  obtain⟨w2,hw2⟩:∃ w2,w2=wr:=⟨_,rfl⟩
  subst hw2;by_cases hlt:q<n
  ·have q0:(0:Int)≤(q:Int):=by omega
   have q1:(q:Int)<(n:Int):=by omega
   obtain⟨b,off,va,rfl,hbl,g0,g1,gA⟩:=HC.out q hlt
   have g0:=(hb.out.cell (p:=⟨b,off+q*2,none⟩) hbl).trans g0;have g1:=(hb.out.cell (p:=⟨b,off+q*2+1,none⟩) hbl).trans g1;have m1:=hK.out.cell 1 (v:= .slice (some ⟨b,off,none⟩) n cap) rfl;have s0:=hK.out.lt;have s1:=hG.out.blk.lt;obtain⟨fi,hfi⟩:∃ fi,(el l q).1=fi:=⟨_,rfl⟩
   rw[hfi]at g0;clear hfi;have HA:=hidP ((gA.later hb.out (Nat.le_refl _)).later ((Below.refl _ _).alloc (Nat.le_refl _) (.cells #[.int .i64 fi,va] 45)) (Nat.le_refl _));have HFQ:=hidP (fun f va W=>HFH.out q f va W hlt);clear gA;obtain⟨av,nv,cv,rfl⟩:∃ av nv cv,va= .slice av nv cv:=by
    obtain⟨x,y,hx⟩:=Row.sl HA.out
    exact⟨x,_,y,hx⟩
   go_wp2_with (go_at_call 90;(with_reducible refine(HFQ.out _ _ _ HA.out).mono ?_);rintro e w5 ⟨rfl,⟨row,hri,hbr⟩,hb5⟩;obtain⟨s5,k5,hb5'⟩:=boxed hb5 (by simp);have HRI:=hidP hri;have HBR:=hidP hbr;have HB5:=hidP hb5';have HG5:=hidP (hG.out.later hb5');have e5:=HG5.out.blk.cell q (v:= .slice none 0 0) (by rw[List.getElem?_toArray,List.getElem?_append_right (by rw[List.length_map,hgl.out];omega)];rw[List.getElem?_replicate,if_pos (by rw[List.length_map,hgl.out];omega)]);have f5:=HG5.out.blk.fz q;clear hri hbr hb5 hb5' k5)
   have HRT:=hidP (HRN.out q d row hR.out HRI.out);have HLY:=hidP (HG5.out.lay (by rw[hgl.out];exact hlt) HBR.out (HRL.out q row HRI.out) (by simp;omega) (fun j hj=>by have:=(hG.out.row j hj).2.2.lt;simp;omega));rw[hgl.out]at HLY;simp only[World.size_alloc]at HLY
   have HKL:=hidP ((hK.out.below HB5.out hK.out.lt).setO ⟨w.heap.size+1,q,none⟩ (.slice (some ⟨w2.heap.size+1+1,0,none⟩) n n) (by show w.heap.size≠w.heap.size+1;omega));have HBL:=hidP ((hb.out.trans (HB5.out.mono hb.out.size)).setCell (p:=⟨w.heap.size+1,q,none⟩) (by show w.heap.size≤w.heap.size+1;omega) (.slice (some ⟨w2.heap.size+1+1,0,none⟩) n n));go_roundw
   case rel=>exact ⟨q+1,gs++[w2.heap.size+1+1],_,by omega,by go_num,(by show _=_;simp[hgl.out]),HLY,HRT,HKL,HBL⟩
   case measure=>simp [intOf];omega
  ·have q1:¬ (q:Int)<(n:Int):=by omega
   obtain rfl:n=q:=by omega
   have HFW:=hidP (HFS.out d hR.out);have HGG:=hidP hG.out;clear hR hG;go_wp2;go_loopw [32] (fun i wr=>∃ (k:Nat) (d:List (List Int)),k≤n∧i= .int .i64 k∧Hid (FwQ l k 0 0 d)∧Hid (GridP wr (w.heap.size+1) n (w.heap.size+1) gs d)∧Hid (Below w.heap.size w wr)) (fun i _=>n-(intOf i).toNat)
   case atStart=>exact ⟨0,d,Nat.zero_le _,rfl,HFW,HGG,hb⟩
   case round=>
    clear HFW HGG hb hK;obtain⟨k,d,hk,rfl,hF,hG,hb⟩:=hrel
    by_cases hkl:k<n
    ·have k0:(0:Int)≤(k:Int):=by omega
     have k1:(k:Int)<(n:Int):=by omega
     go_wp2;go_loopw [37] (fun i wr=>∃ (q:Nat) (d:List (List Int)),q≤n∧i= .int .i64 q∧Hid (FwQ l k q 0 d)∧Hid (GridP wr (w.heap.size+1) n (w.heap.size+1) gs d)∧Hid (Below w.heap.size w wr)) (fun i _=>n-(intOf i).toNat)
     case atStart=>exact ⟨0,d,Nat.zero_le _,rfl,hF,hG,hb⟩
     case round=>
      clear hF hG hb;obtain⟨q,d,hq,rfl,hF,hG,hb⟩:=hrel
      obtain⟨w5,hw5⟩:∃ w5,w5=wr:=⟨_,rfl⟩
      subst hw5;by_cases hql:q<n
      ·have q0:(0:Int)≤(q:Int):=by omega
       have q1:(q:Int)<(n:Int):=by omega
       have hdl:d.length=n:=HFL.out k q 0 d hF.out;have cq:=hG.out.rowc (q:=q) (by omega);have ck:=hG.out.rowc (q:=k) (by omega);have c1:=hG.out.get (q:=q) (p:=k) (by omega) hkl;have HCC:=hidP (HSH.out k q _ _ gs d w5.drew hkl hql hF.out (hG.out.later ((Below.refl _ _).drew)))
       have HLD:Hid (∀ W d',GridP W (w.heap.size+1) n (w.heap.size+1) gs d'→d'.length=n→HeldT2c (w.heap.size+1) q (.slice (some ⟨el gs q,0,none⟩) n n) k (.slice (some ⟨el gs k,0,none⟩) n n) W):=fun W d' h hl=>⟨h.rowc (by omega),h.rowc (by omega)⟩
       generalize toA (el (el d q) k)=x1 at *;generalize el gs q=Bq at *;generalize el gs k=Bk at *;go_wp2;have c1':w5.drew.cell? ⟨Bq,k,none⟩=some (.int .i64 x1):=c1;have HS:HeldT2c (w.heap.size+1) q (.slice (some ⟨Bq,0,none⟩) n n) k (.slice (some ⟨Bk,0,none⟩) n n) w5.drew:=⟨cq,ck⟩
       refine jjaf (HeldT2c (w.heap.size+1) q (.slice (some ⟨Bq,0,none⟩) n n) k (.slice (some ⟨Bk,0,none⟩) n n)) 1000 (by kernel_rfl) ?_
       refine jjaa (v:=?v0_1) aZ0 ?y0_1 HS ?r0_1
       case y0_1=>intro wx hx;obtain⟨h0,h1⟩:=hx;go_simp;try (with_reducible rfl)
       simp only[Act.put,sA,sB,sC];refine jjaa (v:=?v1_2) aZ1 ?y1_2 HS ?r1_2
       case y1_2=>intro wx hx;obtain⟨h0,h1⟩:=hx;go_simp;try (with_reducible rfl)
       simp only[Act.put,sA,sB,sC];refine jjaa (v:=?v2_3) aZ2 ?y2_3 HS ?r2_3
       case y2_3=>intro wx hx;obtain⟨h0,h1⟩:=hx;go_simp;try (with_reducible rfl)
       simp only[Act.put,sA,sB,sC];refine jjaa (v:=?v3_4) aZ3 ?y3_4 HS ?r3_4
       case y3_4=>intro wx hx;obtain⟨h0,h1⟩:=hx;go_simp;try (with_reducible rfl)
       simp only[Act.put,sA,sB,sC];refine jjaa (v:=?v4_5) aZ4 ?y4_5 HS ?r4_5
       case y4_5=>intro wx hx;obtain⟨h0,h1⟩:=hx;go_simp;try (with_reducible rfl)
       simp only[Act.put,sA,sB,sC];refine jjaa (v:=?v5_6) aZ5 ?y5_6 HS ?r5_6
       case y5_6=>intro wx hx;obtain⟨h0,h1⟩:=hx;go_simp;try (with_reducible rfl)
       simp only[Act.put,sA,sB,sC];refine jjaa (v:=?v6_7) aZ6 ?y6_7 HS ?r6_7
       case y6_7=>intro wx hx;obtain⟨h0,h1⟩:=hx;go_simp;try (with_reducible rfl)
       simp only[Act.put,sA,sB,sC];refine jjaa (v:=?v7_8) aZ7 ?y7_8 HS ?r7_8
       case y7_8=>intro wx hx;obtain⟨h0,h1⟩:=hx;go_simp;try (with_reducible rfl)
       simp only[Act.put,sA,sB,sC];refine jjaa (v:=?v8_9) aZ8 ?y8_9 HS ?r8_9
       case y8_9=>intro wx hx;obtain⟨h0,h1⟩:=hx;go_simp;try (with_reducible rfl)
       simp only[Act.put,sA,sB,sC];refine jjaa (v:=?v9_10) aZ9 ?y9_10 HS ?r9_10
       case y9_10=>intro wx hx;obtain⟨h0,h1⟩:=hx;go_simp;try (with_reducible rfl)
       simp only[Act.put,sA,sB,sC];refine jjaa (v:=?v10_11) aZ10 ?y10_11 HS ?r10_11
       case y10_11=>intro wx hx;obtain⟨h0,h1⟩:=hx;go_simp;try (with_reducible rfl)
       simp only[Act.put,sA,sB,sC];refine jjaa (v:=?v11_12) aZ11 ?y11_12 HS ?r11_12
       case y11_12=>intro wx hx;obtain⟨h0,h1⟩:=hx;go_simp;try (with_reducible rfl)
       simp only[Act.put,sA,sB,sC];refine jjaa (v:=?v12_13) aZ12 ?y12_13 HS ?r12_13
       case y12_13=>intro wx hx;obtain⟨h0,h1⟩:=hx;go_simp;try (with_reducible rfl)
       simp only[Act.put,sA,sB,sC];refine jjaa (v:=?v13_14) aZ13 ?y13_14 HS ?r13_14
       case y13_14=>intro wx hx;obtain⟨h0,h1⟩:=hx;go_simp;try (with_reducible rfl)
       simp only[Act.put,sA,sB,sC];refine jjab aZ14 (fun K hK=>?_)
       go_simp;refine hK _ _ (.inr HS) ?_
       try simp only[Act.put,sA,sB,sC]
       refine jjab aZ15 (fun K hK=>?_)
       go_simp;with_reducible refine HCC.out.mono ?_
       rintro e w6 ⟨rfl,⟨d',hF6,hG6⟩,hb6⟩
       have HS6:=HLD.out w6 d' hG6 (HFL.out _ _ _ d' hF6);have HF6:=hidP (HF3.out k q d' hF6);have HG6:=hidP hG6;have HB6:=hidP (hb.out.drew.trans (hb6.mono (by omega)));refine hK _ _ (.inr HS6) (jjad (by kernel_rfl) (NoPanic.normal ?_))
       try simp only[Act.put,sA,sB,sC]
       clear HS HCC hF6 hG6 hb6 HS6 c1';go_wp2;go_roundw
       case rel=>exact ⟨q+1,d',by omega,by go_num,HF6,HG6,HB6⟩
       case measure=>simp [intOf];omega
      ·have q1:¬ (q:Int)<(n:Int):=by omega
       obtain rfl:n=q:=by omega
       have HW:=hidP (HF4.out k d hF.out);go_wp2;go_roundw
       case rel=>exact ⟨k+1,d,by omega,by go_num,HW,hG,hb⟩
       case measure=>simp [intOf];omega
    ·have k1:¬ (k:Int)<(n:Int):=by omega
     obtain rfl:n=k:=by omega
     have HW:=hidP (HFE.out d hF.out);have hdl:d.length=n:=HFL.out n 0 0 d hF.out;go_wp2;go_ret;exact⟨rfl,⟨gs,d,hG.out,hdl,HW.out⟩,hb.out⟩
theorem jjf1 {w w':World}(hb:Below w.heap.size w w'):w.grownBy w' none:=⟨hb.os,hb.tape,hb.output,hb.size,fun k hk _=>hb.block k hk⟩
theorem jjco {w w':World}{base:Nat}{e:TypeId}{s:Nat}{v:Value}{n:Nat}{xs:List Value}(h:w.ownsRow base e s v n xs)(hb:Below w.heap.size w w'):w'.ownsRow base e s v n xs:=
 h.kept (jjf1 hb) (by rcases v.ownBlock with _ | _<;>simp)
theorem own_mono {w:World}{base base':Nat}{e:TypeId}{s:Nat}{v:Value}{n:Nat}{xs:List Value}(h:w.ownsRow base e s v n xs)(hb:base'≤base):w.ownsRow base' e s v n xs:=by
 refine⟨h.1,?_⟩
 rcases h.2 with h2 | ⟨g,cap,cur,hv,hg,h3⟩
 ·exact .inl h2
 ·exact .inr ⟨g,cap,cur,hv,Nat.le_trans hb hg,h3⟩
def Agree (B:Nat)(w w':World):Prop:=∀ k,B≤k→k<w.heap.size→w'.heap[k]? =w.heap[k]?
theorem Agree.refl (B:Nat)(w:World):Agree B w w:=fun _ _ _=>rfl
theorem jjc8 {B:Nat}{w:World}{a:Addr}(ha:a.block<B)(u:Value):Agree B w (w.setCell a u):=fun k hk _=>Below.heap_setCell w a u k (by omega)
theorem Agree.trans {B:Nat}{w w' w'':World}(h:Agree B w w')(hs:w.heap.size≤w'.heap.size)(k:Agree B w' w''):Agree B w w'':=fun i hi hl=>(k i hi (Nat.lt_of_lt_of_le hl hs)).trans (h i hi hl)
theorem Agree.mono {B B':Nat}{w w':World}(h:Agree B w w')(hB:B≤B'):Agree B' w w':=fun k hk hl=>h k (Nat.le_trans hB hk) hl
theorem jjfp {B:Nat}{w w':World}(hb:Below w.heap.size w w'):Agree B w w':=fun k _ hl=>hb.block k hl
theorem own_agree {w w':World}{base:Nat}{e:TypeId}{s:Nat}{v:Value}{n:Nat}{xs:List Value}(h:w.ownsRow base e s v n xs)(hg:Agree base w w'):w'.ownsRow base e s v n xs:=by
 refine⟨h.1,?_⟩
 rcases h.2 with h2 | ⟨g,cap,cur,hv,hb,hh,h3⟩
 ·exact .inl h2
 ·exact .inr ⟨g,cap,cur,hv,hb,(hg g hb (lt_of_block hh)).trans hh,h3⟩
theorem blk_agree {w w':World}{base b:Nat}{cs:Array Value}{t:TypeId}(h:Blk w b cs t)(hb:base≤b)(hg:Agree base w w'):Blk w' b cs t:=(hg b hb h.lt).trans h
def MachFrom (B:Nat)(w:World)(v:Value)(m:Mc):Prop:=∀ w',Agree B w w'→Mach w' v m
theorem MachFrom.mach {B:Nat}{w:World}{v:Value}{m:Mc}(h:MachFrom B w v m):Mach w v m:=h w (Agree.refl _ _)
theorem MachFrom.set {B:Nat}{w:World}{v:Value}{m:Mc}(h:MachFrom B w v m){a:Addr}(ha:a.block<B)(u:Value):MachFrom B (w.setCell a u) v m:=fun w' hg=>h w' ((jjc8 ha u).trans (by simp[World.setCell]) hg)
theorem MachFrom.mono {B B':Nat}{w:World}{v:Value}{m:Mc}(h:MachFrom B' w v m)(hB:B≤B'):MachFrom B w v m:=fun w' hg=>h w' (hg.mono hB)
theorem MachFrom.later {B:Nat}{w w1:World}{v:Value}{m:Mc}(h:MachFrom B w v m)(hb:Below w.heap.size w w1):MachFrom B w1 v m:=fun w' hg=>h w' ((jjfp hb).trans hb.size hg)
theorem MachFrom.sl {B:Nat}{w:World}{v:Value}{m:Mc}(h:MachFrom B w v m):∃ a c,v= .agg #[.int .i64 m.1,.slice a m.2.length c]:=by
 obtain⟨vs,rfl,hS⟩:=h.mach
 obtain⟨a,c,rfl⟩:=hS.sl
 exact⟨a,c,rfl⟩
def resM (r:Int)(m:Mc):Mc:=if r=0 then m else(0,[])
theorem jjfq (n:Nat):madeCells (Value.cells (.agg #[.int .i64 0,.slice none 0 0])) (n*2)=((List.replicate n ((0:Int),Value.slice none 0 0)).flatMap encS).toArray:=by
 apply Array.ext_getElem?
 intro t;have hz:Value.cells (.agg #[.int .i64 0,.slice none 0 0])= #[.int .i64 0,.slice none 0 0]:=rfl;by_cases ht:t<n*2
 ·have h2:=jjas jja9 (List.replicate n ((0:Int),Value.slice none 0 0)) (t / 2) (by simp;omega) (t % 2) (by omega)
  have he:t / 2*2+t % 2=t:=by omega
  rw[he]at h2;simp only[List.getElem?_toArray];rw[h2,jjaj (by simp;omega),List.getElem_replicate];simp only[madeCells,hz,Array.getElem?_map];rw[Array.getElem?_eq_getElem (by simpa using ht)];have h01:t % 2=0∨t % 2=1:=by omega
  rcases h01 with h | h<;>simp [h,encS]
 ·rw [Array.getElem?_eq_none (by simp[size_madeCells];omega),List.getElem?_toArray,List.getElem?_eq_none (by rw[jjai jja9];simp;omega)]
theorem jjfr {vs:List (Int × Value)}{k:Nat}(hk:k<vs.length)(p:Int × Value):((vs.flatMap encS).toArray.setIfInBounds (k*2) (.int .i64 p.1)).setIfInBounds (k*2+1) p.2=((vs.set k p).flatMap encS).toArray:=by
 apply Array.ext_getElem?
 intro t;have hl:(vs.flatMap encS).length=vs.length*2:=jjai jja9 vs;by_cases ht:t<vs.length*2
 ·have he:t / 2*2+t % 2=t:=by omega
  have h1:=jjas jja9 vs (t / 2) (by omega) (t % 2) (by omega);have h2:=jjas jja9 (vs.set k p) (t / 2) (by simp;omega) (t % 2) (by omega);rw[he]at h1 h2;rw[Array.getElem?_setIfInBounds,Array.getElem?_setIfInBounds];simp only[List.getElem?_toArray];rw[h1,h2];simp only[Array.size_setIfInBounds,List.size_toArray,hl];by_cases hq:t / 2=k
  ·have hel:el (vs.set k p) (t / 2)=p:=by rw[hq,jjaj (by simpa using hk)];simp
   rw[hel];have h01:t=k*2∨t=k*2+1:=by omega
   rcases h01 with h | h
   ·have e0:t % 2=0:=by omega
    rw[if_neg (by omega),if_pos h.symm,if_pos (by omega),e0];rfl
   ·have e0:t % 2=1:=by omega
    rw[if_pos h.symm,if_pos (by omega),e0];rfl
  ·have hel:el (vs.set k p) (t / 2)=el vs (t / 2):=by simp[el,List.getElem?_set_ne (Ne.symm hq)]
   rw[hel,if_neg (by omega),if_neg (by omega)]
 ·rw [Array.getElem?_eq_none (by simp only[Array.size_setIfInBounds,List.size_toArray,hl];omega),List.getElem?_toArray,List.getElem?_eq_none (by rw[jjai jja9];simp;omega)]
theorem el_setS {α:Type}[Inhabited α]{l:List α}{k j:Nat}(hk:k<l.length)(x:α):el (l.set k x) j=if j=k then x else el l j:=by
 by_cases h:j=k
 ·subst h;rw[if_pos rfl,jjaj (by simpa using hk)];simp
 ·rw [if_neg h];simp[el,List.getElem?_set_ne (Ne.symm h)]
theorem jjfs {w:World}{bs B:Nat}{vs:List (Int × Value)}{l:List St}(hb:Blk w bs (vs.flatMap encS).toArray 45)(hl:vs.length=l.length)(h:∀ j,j<l.length→(el vs j).1=(el l j).1∧w.ownsRow B 56 4 (el vs j).2 (el l j).2.length ((el l j).2.flatMap encA)):
  Sts w (.slice (some ⟨bs,0,none⟩) l.length l.length) l:=by
 refine⟨vs,.inr ⟨⟨bs,0,none⟩,l.length,by rw[hl],fun j hj i u hu=>?_⟩,hl,fun j hj=>⟨(h j hj).1,Row.ofOwn jjah (h j hj).2 rfl⟩⟩
 have hi:i<2:=by
  rcases Nat.lt_or_ge i 2 with h | h
  ·exact h
  ·rw [List.getElem?_eq_none (by rw[jja9];exact h)]at hu;simp at hu
 rw[Addr.add_lit,Nat.zero_add];refine hb.cell _ ?_
 rw[List.getElem?_toArray,jjas jja9 vs j hj i hi];exact hu
theorem made_arcs (n:Nat):madeCells (Value.cells (.agg #[.int .i64 0,.int .i64 0,.int .i64 0,.int .i64 0])) (n*4)=((List.replicate n ((0,0,0,0):Ar)).flatMap encA).toArray:=by
 apply Array.ext_getElem?
 intro t;have hz:Value.cells (.agg #[.int .i64 0,.int .i64 0,.int .i64 0,.int .i64 0])= #[.int .i64 0,.int .i64 0,.int .i64 0,.int .i64 0]:=rfl;by_cases ht:t<n*4
 ·have h2:=jjas jjah (List.replicate n ((0,0,0,0):Ar)) (t / 4) (by simp;omega) (t % 4) (by omega)
  have he:t / 4*4+t % 4=t:=by omega
  rw[he]at h2;simp only[List.getElem?_toArray];rw[h2,jjaj (by simp;omega),List.getElem_replicate];simp only[madeCells,hz,Array.getElem?_map];rw[Array.getElem?_eq_getElem (by simpa using ht)];have h01:t % 4=0∨t % 4=1∨t % 4=2∨t % 4=3:=by omega
  rcases h01 with h | h | h | h<;>simp [h,encA]
 ·rw [Array.getElem?_eq_none (by simp[size_madeCells];omega),List.getElem?_toArray,List.getElem?_eq_none (by rw[jjai jjah];simp;omega)]
theorem set_arc {xs:List Ar}{k:Nat}(hk:k<xs.length)(p:Ar):((((xs.flatMap encA).toArray.setIfInBounds (k*4) (.int .i64 p.1)).setIfInBounds (k*4+1) (.int .i64 p.2.1)).setIfInBounds (k*4+2) (.int .i64 p.2.2.1)).setIfInBounds (k*4+3) (.int .i64 p.2.2.2)=((xs.set k p).flatMap encA).toArray:=by
 apply Array.ext_getElem?
 intro t;have hl:(xs.flatMap encA).length=xs.length*4:=jjai jjah xs;by_cases ht:t<xs.length*4
 ·have he:t / 4*4+t % 4=t:=by omega
  have h1:=jjas jjah xs (t / 4) (by omega) (t % 4) (by omega);have h2:=jjas jjah (xs.set k p) (t / 4) (by simp;omega) (t % 4) (by omega);rw[he]at h1 h2;rw[Array.getElem?_setIfInBounds,Array.getElem?_setIfInBounds,Array.getElem?_setIfInBounds,Array.getElem?_setIfInBounds];simp only[List.getElem?_toArray];rw[h1,h2];simp only[Array.size_setIfInBounds,List.size_toArray,hl];by_cases hq:t / 4=k
  ·have hel:el (xs.set k p) (t / 4)=p:=by rw[hq,jjaj (by simpa using hk)];simp
   rw[hel];have h01:t=k*4∨t=k*4+1∨t=k*4+2∨t=k*4+3:=by omega
   rcases h01 with h | h | h | h
   ·have e0:t % 4=0:=by omega
    rw[if_neg (by omega),if_neg (by omega),if_neg (by omega),if_pos h.symm,if_pos (by omega),e0];rfl
   ·have e0:t % 4=1:=by omega
    rw[if_neg (by omega),if_neg (by omega),if_pos h.symm,if_pos (by omega),e0];rfl
   ·have e0:t % 4=2:=by omega
    rw[if_neg (by omega),if_pos h.symm,if_pos (by omega),e0];rfl
   ·have e0:t % 4=3:=by omega
    rw[if_pos h.symm,if_pos (by omega),e0];rfl
  ·have hel:el (xs.set k p) (t / 4)=el xs (t / 4):=by simp[el,List.getElem?_set_ne (Ne.symm hq)]
   rw[hel,if_neg (by omega),if_neg (by omega),if_neg (by omega),if_neg (by omega)]
 ·rw [Array.getElem?_eq_none (by simp only[Array.size_setIfInBounds,List.size_toArray,hl];omega),List.getElem?_toArray,List.getElem?_eq_none (by rw[jjai jjah];simp;omega)]
theorem run_arcs (n:Nat)(hn:n≤1000)(W:World):(Instr.makeSlice 43 (.int .i64 (n:Int)) (.int .i64 (n:Int))).run Tryz.prog W= .ok (.slice (some ⟨W.heap.size,0,none⟩) n n) (W.alloc (.cells ((List.replicate n ((0,0,0,0):Ar)).flatMap encA).toArray 56)):=by
 obtain⟨i1,hi1,hy0,hy1,hy2⟩:=info_parts infoArc
 have h:=run_make (P:=Tryz.prog) W 43 56 i1 _ Tryz.underlying43 hi1 hy0 .i64 .i64 n n (by omega) (by omega) (by rw[hy2];omega) (by omega);rw[hy1,Int.toNat_natCast,made_arcs]at h;exact h
theorem run_states (n:Nat)(hn:n≤1000)(W:World):(Instr.makeSlice 22 (.int .i64 (n:Int)) (.int .i64 (n:Int))).run Tryz.prog W= .ok (.slice (some ⟨W.heap.size,0,none⟩) n n) (W.alloc (.cells ((List.replicate n ((0:Int),Value.slice none 0 0)).flatMap encS).toArray 45)):=by
 obtain⟨i1,hi1,hy0,hy1,hy2⟩:=info_parts infoState
 have h:=run_make (P:=Tryz.prog) W 22 45 i1 _ Tryz.underlying22 hi1 hy0 .i64 .i64 n n (by omega) (by omega) (by rw[hy2];omega) (by omega);rw[hy1,Int.toNat_natCast,jjfq]at h;exact h
theorem arcs_block {w:World}{g B:Nat}{xs:List Ar}(h:Blk w g (xs.flatMap encA).toArray 56)(hB:B≤g)(hl:xs.length≤1000):w.ownsRow B 56 4 (.slice (some ⟨g,0,none⟩) xs.length xs.length) xs.length (xs.flatMap encA):=
 ⟨jjai jjah xs,.inr ⟨g,xs.length,_,rfl,hB,h,Nat.le_refl _,by unfold maxLen;omega,by simp[jjai jjah],by rw[List.take_of_length_le];rw[Array.length_toList,List.size_toArray,jjai jjah];exact Nat.le_refl _⟩⟩
end Go.Proofs.YtppkiejhhmahcaaGreatDoor.Wt
