/- Facts, joined. -/
import Derived.Test.YtppkiejhhmahcaaGreatDoorSaF
import Derived.Laws.CopyRow
import Derived.Laws.CopyOwn
import Derived.Lib.SlBuf
set_option linter.unusedSimpArgs false
set_option linter.unusedVariables false
set_option maxHeartbeats 6400000
set_option maxRecDepth 100000
namespace Go.Proofs.YtppkiejhhmahcaaGreatDoor.Wt
open ChangeShapes WideShapes ChangeAt RowKit Pl
theorem JoK.setN {J b o:Nat}{w wr:World}{v:Value}(h:JoK J w wr)(hb:w.heap.size≤b):JoK J w (wr.setCell ⟨b,o,none⟩ v):=⟨by simp[World.setCell];exact h.1,fun q cs t hq h1 h2=>(h.2 q cs t hq h1 h2).setO _ _ (by have:=hq.lt;show q≠b;omega)⟩
theorem blkNeL {w:World}{a b:Nat}{cs ds:Array Value}{t u:TypeId}(h:Blk w a cs t)(k:Blk w b ds u)(hne:t≠u):a≠b:=fun e=>by
 subst e;unfold Blk at h k;rw[h]at k;simp only[Option.some.injEq,Obj.cells.injEq]at k;exact hne k.2.1
theorem take_set {xs:List Ar}{i:Nat}{p:Ar}(h:i<xs.length):(xs.set i p).take (i+1)=xs.take i++[p]:=by
 rw[jja0 (by rw[List.length_set];exact h)];congr 1
 ·rw [List.take_set_of_le (Nat.le_refl _)]
 ·simp [el,h]
structure LedI (l:List St)(f:Nat→Nat)(L:List Nat)(o:Nat)(w wr:World)(base J gn n:Nat)(vk vf:Value)(K Ns:List Int)(Lc:List Nat)(ac:List Ar)(Gl:Nat)(xs:List Ar)(i:Nat):Prop where
 jn:JnI wr base J gn n vk vf Ns Lc
 nb:NbI n K Ns Lc
 ar:ArcI l f L o i Lc ac
 bl:Blk wr Gl (xs.flatMap encA).toArray 56
 tk:xs.take i=ac
 jk:JoK J w wr
 bel:Below base w wr
section
variable {l:List St} {f:Nat→Nat} {L:List Nat} {o:Nat} {w wr w':World} {base J gn n:Nat} {vk vf:Value} {K Ns:List Int} {Lc:List Nat} {ac:List Ar} {Gl:Nat} {xs:List Ar} {i:Nat}
theorem LedI.later (h:LedI l f L o w wr base J gn n vk vf K Ns Lc ac Gl xs i)(hb:Below wr.heap.size wr w')(hB:base≤wr.heap.size):LedI l f L o w w' base J gn n vk vf K Ns Lc ac Gl xs i:=⟨h.jn.later hb,h.nb,h.ar,h.bl.below hb h.bl.lt,h.tk,h.jk.trans (JoK.of hb),h.bel.trans (hb.mono hB)⟩
end
theorem led_any (w0 w:World)(l:List St)(f:Nat→Nat)(L:List Nat)(o:Nat)(base J gn gk n:Nat)(vf:Value)(K Ns:List Int)(va:Value)(fin:Int)(ar:List Ar)(h:JnI w base J gn n (.slice (some ⟨gk,0,none⟩) n n) vf Ns L)(hI:NbI n K Ns L)(hK:∀ q,q<n→∃ κ:Nat,el K q=(κ:Int)∧κ<n)(hKl:K.length=n)(hB:Blk w0 gk (K.map (Value.int .i64)).toArray 3)(hA:Arcs w0 va ar)(hb0:Below w0.heap.size w0 w)(hw0:w0.heap.size≤base)(hn:n≤60)(hln:l.length=n)(hbw:base≤w.heap.size)(hKF:∀ q p,q<n→p<n→(el K q=el K p↔f q=f p))(hso:el l o=(fin,ar))(hto:∀ i,i<ar.length→∃ t:Nat,(el ar i).2.2.2=(t:Int)∧t<n)(h400:ar.length≤400)(A0:ArcI l f L o 0 L [])(hlen:∀ i Lc ac,ArcI l f L o i Lc ac→i≤ar.length→Lc.length≤60∧ac.length=i):
  Calls Tryz.prog 117 #[.pointer (some ⟨J,0,none⟩),va] w fun e w'=>∃ (G:Nat) (vf':Value) (Ns':List Int) (Lc:List Nat) (ac:List Ar),e= .returned (.slice (some ⟨G,0,none⟩) ar.length ar.length)∧ArcI l f L o ar.length Lc ac∧NbI n K Ns' Lc∧JnI w' base J gn n (.slice (some ⟨gk,0,none⟩) n n) vf' Ns' Lc∧OwnArcs w' base (.slice (some ⟨G,0,none⟩) ar.length ar.length) ac∧JoK J w w'∧Below base w w':=by
 obtain⟨aa,ca,rfl,hca⟩:=hA.get
 have HCA:=hidP hca;have HTO:=hidP hto;have HLN:=hidP hlen;have HNJ:=hidP (fun W Lc' vf' Ns' t (h1:JnI W base J gn n (.slice (some ⟨gk,0,none⟩) n n) vf' Ns' Lc') (h2:NbI n K Ns' Lc') (h3:Below w0.heap.size w0 W) (h4:t<n) (h5:Lc'.length≤60) (h6:base≤W.heap.size)=>numJ_any w0 W base J gn gk n vf' K Ns' Lc' t h1 h2 hK hKl hB h3 hw0 h4 hn h5 h6)
 have HOL:Hid (∀ (i:Nat) (Lc:List Nat) (ac:List Ar) (t j:Nat),ArcI l f L o i Lc ac→i<ar.length→(el ar i).2.2.2=(t:Int)→t<n→NbI n K Ns Lc∨True→j<Lc.length→el Lc j<n→el K (el Lc j)=el K t→ArcI l f L o (i+1) Lc (ac++[((el ar i).1,(el ar i).2.1,(el ar i).2.2.1,(j:Int))])):=fun i Lc ac t j h1 h2 h3 h4 _ h5 h6 h7=>by
  have h9:=h1.old (by rw[hso];exact h2) (t:=t) (by rw[hso];exact h3) h5 ((hKF _ _ h6 h4).1 h7);rw[hso]at h9;exact h9
 have HNE:Hid (∀ (i:Nat) (Lc:List Nat) (ac:List Ar) (t:Nat),ArcI l f L o i Lc ac→i<ar.length→(el ar i).2.2.2=(t:Int)→t<n→(∀ u ∈ Lc,u<n)→(∀ j,j<Lc.length→el K (el Lc j)≠el K t)→ArcI l f L o (i+1) (Lc++[t]) (ac++[((el ar i).1,(el ar i).2.1,(el ar i).2.2.1,(Lc.length:Int))])):=fun i Lc ac t h1 h2 h3 h4 h5 h6=>by
  have h9:=h1.new (by rw[hso];exact h2) (t:=t) (by rw[hso];exact h3) (by rw[hln];exact h4) (fun j hj g=>h6 j hj ((hKF _ _ (h5 _ (jjac hj)) h4).2 g));rw[hso]at h9;exact h9
 have HB0:=hidP hb0;obtain⟨nA,hnA⟩:∃ nA,ar.length=nA:=⟨_,rfl⟩
 rw[hnA]at HCA HTO HLN HOL HNE h400 ⊢;have hmk:=run_arcs nA (by omega);have hA1:=(Below.refl w.heap.size w).alloc (Nat.le_refl _) (.cells ((List.replicate nA ((0,0,0,0):Ar)).flatMap encA).toArray 56)
 have I0:Hid (LedI l f L o w (w.alloc (.cells ((List.replicate nA ((0,0,0,0):Ar)).flatMap encA).toArray 56)) base J gn n (.slice (some ⟨gk,0,none⟩) n n) vf K Ns L [] w.heap.size (List.replicate nA ((0,0,0,0):Ar)) 0):=⟨h.later hA1,hI,A0,Blk.made _ _ _,by simp,JoK.of hA1,hA1.mono hbw⟩
 clear hA hca hto hlen hK hB hb0 hKF hso A0 h hI hA1 hnA;go_enter Tryz.func117,Tryz.ntmps117;go_wp2;generalize w.alloc (.cells ((List.replicate nA ((0,0,0,0):Ar)).flatMap encA).toArray 56)=w1 at *;obtain⟨Gl,hGl⟩:∃ Gl,Gl=w.heap.size:=⟨_,rfl⟩
 rw[← hGl]at I0 ⊢;have hGw:w.heap.size≤Gl:=by omega
 clear hGl;go_loopw [13] (fun i wr=>∃ (k:Nat) (vf':Value) (Ns':List Int) (Lc:List Nat) (ac xs:List Ar),k≤nA∧i= .int .i64 k∧xs.length=nA∧Hid (LedI l f L o w wr base J gn n (.slice (some ⟨gk,0,none⟩) n n) vf' K Ns' Lc ac Gl xs k)) (fun i _=>nA-(intOf i).toNat)
 case atStart=>exact ⟨0,vf,Ns,L,[],_,Nat.zero_le _,rfl,by simp,I0⟩
 case round=>
  clear I0;obtain⟨k,vf5,Ns5,Lc,ac,xs,hk,rfl,hxl,hE⟩:=hrel
  obtain⟨w5,hw5⟩:∃ w5,w5=wr:=⟨_,rfl⟩
  subst hw5;have hb5:=Nat.le_trans hbw hE.out.bel.size;by_cases hlt:k<nA
  ·have k0:(0:Int)≤(k:Int):=Int.natCast_nonneg _
   have k1:(k:Int)<(nA:Int):=by omega
   obtain⟨b,off,hab,hbl,q0,q1,q2,q3⟩:=HCA.out k hlt
   subst hab;have W5:=hidP (HB0.out.trans (hE.out.bel.mono hw0));have q0:=(W5.out.cell (p:=⟨b,off+k*4,none⟩) hbl).trans q0;have q1:=(W5.out.cell (p:=⟨b,off+k*4+1,none⟩) hbl).trans q1;have q2:=(W5.out.cell (p:=⟨b,off+k*4+2,none⟩) hbl).trans q2;have q3:=(W5.out.cell (p:=⟨b,off+k*4+3,none⟩) hbl).trans q3;obtain⟨t,ht,htn⟩:=HTO.out k hlt
   obtain⟨hLc,hac⟩:=HLN.out k Lc ac hE.out.ar (by omega)
   have HO:=hidP (fun j h1 h2 h3=>HOL.out k Lc ac t j hE.out.ar hlt ht htn (.inr trivial) h1 h2 h3);have HN:=hidP (fun h1=>HNE.out k Lc ac t hE.out.ar hlt ht htn hE.out.nb.low h1);rw[ht]at q3;obtain⟨pp,hpp⟩:∃ pp,el ar k=pp:=⟨_,rfl⟩
   rw[hpp]at q0 q1 q2 HO HN;clear hpp ht;obtain⟨x0,x1,x2,x3⟩:=pp
   simp only at q0 q1 q2 HO HN;have hA6:=(Below.refl w5.heap.size w5).alloc (Nat.le_refl _) (.cells #[.int .i64 x0,.int .i64 x1,.int .i64 x2,.int .i64 (t:Int)] 56);have E6:=hidP (hE.out.later hA6 hb5);have X6:=hidP (Blk.made w5 #[.int .i64 x0,.int .i64 x1,.int .i64 x2,.int .i64 (t:Int)] 56);have W6:=hidP (W5.out.trans (hA6.mono W5.out.size));have hb6:=Nat.le_trans hb5 hA6.size
   have hAw:w.heap.size≤w5.heap.size:=hE.out.jk.1;have hAG:w5.heap.size≠Gl:=by have:=hE.out.bl.lt;omega
   clear hA6 hE W5;go_upto_region 5 with fail
   clear q0 q1 q2 q3;generalize w5.alloc (.cells #[.int .i64 x0,.int .i64 x1,.int .i64 x2,.int .i64 (t:Int)] 56)=w6 at *;obtain⟨Ab,hAb⟩:∃ Ab,Ab=w5.heap.size:=⟨_,rfl⟩
   rw[← hAb]at X6 hAw hAG ⊢;clear hAb;have z3:=X6.out.cell 3 (v:= .int .i64 (t:Int)) rfl;have HC:=hidP (HNJ.out w6 Lc vf5 Ns5 t E6.out.jn E6.out.nb W6.out htn hLc hb6);have hAJ:Ab≠J:=blkNeL X6.out E6.out.jn.jb (by decide);have hGJ:Gl≠J:=blkNeL E6.out.bl E6.out.jn.jb (by decide);go_upto_region 6 with(first
    | (go_at_call 116;(with_reducible refine HC.out.mono ?_);rintro e w7 ⟨jx,vf7,Ns7,Lc7,rfl,hnj,hnb,hjn,hjk,hbb⟩;have NJ:=hidP hnj;have NB:=hidP hnb;have JN:=hidP hjn;have X7:=hidP (hjk.2 _ _ _ X6.out hAJ (by decide));have L7:=hidP (hjk.2 _ _ _ E6.out.bl hGJ (by decide));have JK:=hidP (E6.out.jk.trans hjk);have BE:=hidP (E6.out.bel.trans hbb);have y3:=X7.out.cell 3 (v:= .int .i64 (t:Int)) rfl;have f3:=X7.out.fz 3;clear hnj hnb hjn hjk hbb HC))
   have HAR:Hid (ArcI l f L o (k+1) Lc7 (ac++[(x0,x1,x2,(jx:Int))])):=by
    rcases NJ.out with⟨h1,h2,h3⟩ | ⟨h1,h2,h3⟩
    ·rw [h3];exact HO.out jx h1 (E6.out.nb.low _ (jjac h1)) h2
    ·rw [h3,h2];exact HN.out h1
   have HTK:=hidP E6.out.tk;have X8:=hidP (X7.out.set 3 (.int .i64 (jx:Int)));have J8:=hidP (JN.out.setB X7.out (by decide) (by decide) 3 (.int .i64 (jx:Int)));have L8:Hid (Blk (w7.setCell ⟨Ab,3,none⟩ (.int .i64 (jx:Int))) Gl (xs.flatMap encA).toArray 56):=L7.out.setO _ _ (Ne.symm hAG);have K8:=hidP (JK.out.setN (b:=Ab) (o:=3) (v:= .int .i64 (jx:Int)) hAw)
   have B8:=hidP (BE.out.setCell (p:=⟨Ab,3,none⟩) (by show base≤Ab;omega) (.int .i64 (jx:Int)));clear y3 f3 z3 X6 X7 JN L7 JK BE E6 NJ HO HN W6;generalize w7.setCell ⟨Ab,3,none⟩ (.int .i64 (jx:Int))=w8 at *;have a0:=X8.out.cell 0 (v:= .int .i64 x0) rfl;have a1:=X8.out.cell 1 (v:= .int .i64 x1) rfl;have a2:=X8.out.cell 2 (v:= .int .i64 x2) rfl;have a3:=X8.out.cell 3 (v:= .int .i64 (jx:Int)) rfl
   have e0:=L8.out.cell (k*4) (v:= .int .i64 (el xs k).1) (by rw[List.getElem?_toArray];exact jjas jjah xs k (by omega) 0 (by omega));have e1:=L8.out.cell (k*4+1) (v:= .int .i64 (el xs k).2.1) (by rw[List.getElem?_toArray];exact jjas jjah xs k (by omega) 1 (by omega))
   have e2:=L8.out.cell (k*4+2) (v:= .int .i64 (el xs k).2.2.1) (by rw[List.getElem?_toArray];exact jjas jjah xs k (by omega) 2 (by omega));have e3:=L8.out.cell (k*4+3) (v:= .int .i64 (el xs k).2.2.2) (by rw[List.getElem?_toArray];exact jjas jjah xs k (by omega) 3 (by omega));have g0:=L8.out.fz (k*4);have g1:=L8.out.fz (k*4+1);have g2:=L8.out.fz (k*4+2);have g3:=L8.out.fz (k*4+3)
   have hbG:base≤Gl:=by omega
   have I9:Hid (LedI l f L o w ((((w8.setCell ⟨Gl,k*4,none⟩ (.int .i64 x0)).setCell ⟨Gl,k*4+1,none⟩ (.int .i64 x1)).setCell ⟨Gl,k*4+2,none⟩ (.int .i64 x2)).setCell ⟨Gl,k*4+3,none⟩ (.int .i64 (jx:Int))) base J gn n (.slice (some ⟨gk,0,none⟩) n n) vf7 K Ns7 Lc7 (ac++[(x0,x1,x2,(jx:Int))]) Gl (xs.set k (x0,x1,x2,(jx:Int))) (k+1)):=by
    have s1:=L8.out.set (k*4) (.int .i64 x0);have s2:=s1.set (k*4+1) (.int .i64 x1);have s3:=s2.set (k*4+2) (.int .i64 x2);have s4:=s3.set (k*4+3) (.int .i64 (jx:Int))
    refine⟨(((J8.out.setB L8.out (by decide) (by decide) _ _).setB s1 (by decide) (by decide) _ _).setB s2 (by decide) (by decide) _ _).setB s3 (by decide) (by decide) _ _,NB.out,HAR.out,?_,by rw[take_set (by omega),HTK.out],(((K8.out.setN hGw).setN hGw).setN hGw).setN hGw,(((B8.out.setCell (p:=⟨Gl,k*4,none⟩) hbG _).setCell (p:=⟨Gl,k*4+1,none⟩) hbG _).setCell (p:=⟨Gl,k*4+2,none⟩) hbG _).setCell (p:=⟨Gl,k*4+3,none⟩) hbG _⟩
    rw[set_arc (by omega) (x0,x1,x2,(jx:Int))]at s4;exact s4
   have hxl2:(xs.set k (x0,x1,x2,(jx:Int))).length=nA:=by rw[List.length_set];exact hxl
   have HXL:=hidP hxl2;clear X8 J8 L8 K8 B8 HAR HTK NB hxl2;obtain⟨y0,hy0⟩:∃ y,(el xs k)=y:=⟨_,rfl⟩
   rw[hy0]at e0 e1 e2 e3;clear hy0;go_wp2;go_roundw
   case rel=>exact ⟨k+1,vf7,Ns7,Lc7,_,_,by omega,by go_num,HXL.out,I9⟩
   case measure=>simp [intOf];omega
  ·have k1:¬ (k:Int)<(nA:Int):=by omega
   obtain rfl:k=nA:=by omega
   have HOW:=hidP (arcs_block (B:=base) hE.out.bl (by omega) (by omega));have hta:xs=ac:=by rw[← hE.out.tk,List.take_of_length_le (by omega)]
   rw[hxl,hta]at HOW;have hacl:ac.length=k:=by rw[← hta];exact hxl
   have HO2:Hid (OwnArcs w5 base (.slice (some ⟨Gl,0,none⟩) k k) ac):=by (show OwnArcs _ _ _ _);unfold OwnArcs;rw[hacl];exact HOW.out
   have E:=hE.out;clear hta hacl hxl;go_wp2;go_ret;first | exact⟨Gl,vf5,Ns5,Lc,ac,rfl,hE.out.ar,hE.out.nb,hE.out.jn,HO2.out,hE.out.jk,hE.out.bel⟩ | exact⟨Gl,rfl,vf5,Ns5,Lc,ac,hE.out.ar,hE.out.nb,hE.out.jn,HO2.out,hE.out.jk,hE.out.bel⟩
theorem elemIntU :Tryz.prog.underlying 36=some (.slice (Tryz.prog.elem 36)):=by kernel_rfl
theorem sizeIntU (w:World):(sizeOf (Tryz.prog.elem 36)).run Tryz.prog w= .ok 1 w:=by kernel_rfl
theorem infoIntR :(Tryz.prog.info? 3).map (·.size)=some 1:=by kernel_rfl
theorem run_fromU (G n k:Nat)(hk:k<n)(W:World):(Instr.sliceAt 36 (.slice (some ⟨G,0,none⟩) n n) (some (.int .i64 (k:Int))) none none).run Tryz.prog W= .ok (.slice (some ⟨G,k,none⟩) (n-k) (n-k)) W:=by
 rw[run_sliceAt_slice _ _ _ _ _ _ elemIntU,run_slice_l _ _ _ _ _ elemIntU _ _ (by omega) (by omega),sizeIntU];simp only[Result.andThen_ok,sliced,Int.toNat_natCast];rw[if_neg (by omega)];simp[Addr.add];try omega
theorem run_toU (G n k:Nat)(h0:0<k)(hk:k≤n)(W:World):(Instr.sliceAt 36 (.slice (some ⟨G,0,none⟩) n n) none (some (.int .i64 (k:Int))) none).run Tryz.prog W= .ok (.slice (some ⟨G,0,none⟩) k n) W:=by
 rw[run_sliceAt_slice _ _ _ _ _ _ elemIntU,run_slice_h _ _ _ _ _ elemIntU _ _ (by omega) (by omega),sizeIntU];simp only[Result.andThen_ok,sliced,Int.toNat_natCast];rw[if_neg (by omega)];simp[Addr.add]
def repL (k n:Nat)(x:Int):List Int:=List.replicate k x++List.replicate (n-k) 0
theorem repL_step (k n c:Nat)(x:Int)(hc:k+c≤n):(((repL k n x).map (Value.int .i64)).toArray.toList.take k++List.replicate c (Value.int .i64 x)++((repL k n x).map (Value.int .i64)).toArray.toList.drop (k+c)).toArray=((repL (k+c) n x).map (Value.int .i64)).toArray:=by
 congr 1
 simp only[repL,List.map_append,List.map_replicate];rw[List.take_left' (by simp)];have e:List.drop (k+c) (List.replicate k (Value.int .i64 x)++List.replicate (n-k) (Value.int .i64 0))=List.replicate (n-(k+c)) (Value.int .i64 0):=by
  have h9:=List.drop_append (l₁:=List.replicate k (Value.int .i64 x)) (l₂:=List.replicate (n-k) (Value.int .i64 0)) (i:=k+c);rw[h9];simp;omega
 rw[e];rw[← List.replicate_append_replicate]
theorem repL_len {k n:Nat}{x:Int}(h:k≤n):(repL k n x).length=n:=by simp[repL];omega
theorem repL_all (n:Nat)(x:Int):repL n n x=List.replicate n x:=by simp[repL]
theorem repeat_any (x:Int)(g n:Nat)(w:World)(hx:w.cell? ⟨g,0,none⟩=some (.int .i64 x))(h1:1≤n)(h60:n≤1000):
  Calls Tryz.prog 115 #[.slice (some ⟨g,0,none⟩) 1 1,.int .i64 (n:Int)] w fun e w'=>∃ G:Nat,e= .returned (.slice (some ⟨G,0,none⟩) n n)∧Blk w' G ((List.replicate n x).map (Value.int .i64)).toArray 3∧w.heap.size≤G∧Below w.heap.size w w':=by
 have hMul:=Tryz.bits_Mul 1 n (by omega) (by omega) w;rw[Nat.one_mul,Nat.div_eq_of_lt (by omega:n<18446744073709551616),Nat.mod_eq_of_lt (by omega:n<18446744073709551616)]at hMul;have HMul:Hid (Calls Tryz.prog 146 #[.int .u64 1,.int .u64 (n:Int)] w fun e w'=>e= .returned (.tuple #[.int .u64 0,.int .u64 (n:Int)])∧w'=w):=hMul;have hmk:=jjdd n (by omega)
 have hA:=(Below.refl w.heap.size w).alloc (Nat.le_refl _) (.cells (Array.replicate n (Value.int .i64 0)) 3);have G1:Blk (w.alloc (.cells (Array.replicate n (Value.int .i64 0)) 3)) w.heap.size ((repL 0 n x).map (Value.int .i64)).toArray 3:=by
  have h9:=Blk.made w (Array.replicate n (Value.int .i64 0)) 3;simpa [repL] using h9
 have hgl:=World.block_lt_of_cell? _ _ hx;have hx1:=(hA.cell (p:=⟨g,0,none⟩) hgl).trans hx;have R1:=run_copy_row (P:=Tryz.prog) (w.alloc (.cells (Array.replicate n (Value.int .i64 0)) 3)) 36 36 3 3 w.heap.size 0 n n ⟨g,0,none⟩ 1 1 _ 3 [.int .i64 x] Tryz.underlying36 infoIntR G1 (by simp[Nat.min_def];omega) (fun j v hj=>by
  cases j with
  | zero=>simp at hj;subst hj;simpa [Addr.add] using hx1
  | succ j=>simp at hj) (by simp[repL_len];omega) (fun v hv=>by rw[List.mem_singleton]at hv;subst hv;rfl)
 have e1:=repL_step 0 n 1 x (by omega);simp only[List.length_singleton,Nat.zero_add,List.replicate_one]at R1 e1;rw[e1]at R1;have G2:=hidP (setRow_heap _ _ _ ((repL 1 n x).map (Value.int .i64)).toArray _ _ G1);have W2:=hidP (below_setRow hA (Nat.le_refl _) ((repL 1 n x).map (Value.int .i64)).toArray);have e9:goInt ((1:Nat):Int)=Value.int .i64 1:=rfl;first | rw[e9]at R1 | skip
 clear hMul e1 e9 G1 hA hx hx1;go_enter Tryz.func115,Tryz.ntmps115;go_wp2_with (first
  | (go_at_call 146;(with_reducible refine HMul.out.mono ?_);rintro e w' ⟨rfl,hw⟩;have hw:=Eq.symm hw;subst hw))
 generalize (w.alloc (.cells (Array.replicate n (Value.int .i64 0)) 3)).setRow w.heap.size ((repL 1 n x).map (Value.int .i64)).toArray=w2 at *;obtain⟨G,hG⟩:∃ G,G=w.heap.size:=⟨_,rfl⟩
 rw[← hG]at G2 ⊢;have hGe:w.heap.size≤G:=by omega
 clear hG R1;go_loopw [8] (fun s8 wr=>∃ k:Nat,s8= .int .i64 (k:Int)∧0<k∧k≤n∧Hid (Blk wr G ((repL k n x).map (Value.int .i64)).toArray 3)∧Hid (Below w.heap.size w wr)) (fun s8 _=>n-(intOf s8).toNat)
 case atStart=>exact ⟨1,rfl,by omega,h1,G2,W2⟩
 case round=>
  clear G2 W2;obtain⟨k,rfl,hk0,hkn,hB,hW⟩:=hrel
  obtain⟨w3,hw3⟩:∃ w3,w3=wr:=⟨_,rfl⟩
  subst hw3;by_cases hlt:k<n
  ·have k1:(k:Int)<(n:Int):=by omega
   have hfr:=run_fromU G n k hlt;have hto:=run_toU G n k hk0 hkn;obtain⟨c,hc⟩:∃ c,Nat.min k (n-k)=c:=⟨_,rfl⟩
   have hc1:0<c∧k+c≤n:=by rw[← hc];simp only[Nat.min_def];split<;>omega
   have R3:=run_copy_row (P:=Tryz.prog) w3.drew 36 36 3 3 G k (n-k) (n-k) ⟨G,0,none⟩ k n _ 3 (List.replicate c (.int .i64 x)) Tryz.underlying36 infoIntR hB.out (by rw[List.length_replicate];exact hc.symm) (fun j v hj=>by
    have hjc:j<c:=by have:=(List.getElem?_eq_some_iff.1 hj).1;simpa using this
    have hv:Value.int .i64 x=v:=by simpa [hjc] using hj
    have hck:c≤k:=by rw[← hc];exact Nat.min_le_left _ _
    have h9:=jjba hB.out (j:=j) (by rw[repL_len hkn];omega)
    have he:el (repL k n x) j=x:=by simp[el,repL,List.getElem?_append,show j<k by omega]
    rw[he,hv]at h9
    rw[Addr.add_lit,Nat.zero_add]
    exact h9) (by simp[repL_len hkn];omega) (fun v hv=>by rw[List.mem_replicate]at hv;rw[hv.2];rfl)
   rw[List.length_replicate,repL_step k n c x hc1.2]at R3;have HR3:=hidP R3;have G4:Hid (Blk (w3.drew.setRow G ((repL (k+c) n x).map (Value.int .i64)).toArray) G ((repL (k+c) n x).map (Value.int .i64)).toArray 3):=setRow_heap w3.drew _ _ _ _ _ hB.out;have W4:=hidP (below_setRow hW.out.drew hGe ((repL (k+c) n x).map (Value.int .i64)).toArray)
   have hkw:IntKind.i64.wrap ((k:Int)+(c:Int))=(k:Int)+(c:Int):=wrapI (by omega) (by omega);clear R3 hc;go_wp2;refine jjaf (fun _=>True) 1000 (by kernel_rfl) ?_
   have HT:(fun _:World=>True) w3.drew:=trivial;refine jjaa (v:=?v0_1) aZ0 ?y0_1 HT ?r0_1
   case y0_1=>intro wx hx;obtain⟨⟩:=hx;go_simp;try (with_reducible rfl)
   simp only[Act.put,sA,sB,sC];refine jjaa (v:=?v1_2) aZ1 ?y1_2 HT ?r1_2
   case y1_2=>intro wx hx;obtain⟨⟩:=hx;go_simp;try (with_reducible rfl)
   simp only[Act.put,sA,sB,sC];refine jjaa (v:=?v2_3) aZ2 ?y2_3 HT ?r2_3
   case y2_3=>intro wx hx;obtain⟨⟩:=hx;go_simp;try (with_reducible rfl)
   simp only[Act.put,sA,sB,sC];refine jjaa (v:=?v3_4) aZ3 ?y3_4 HT ?r3_4
   case y3_4=>intro wx hx;obtain⟨⟩:=hx;go_simp;try (with_reducible rfl)
   simp only[Act.put,sA,sB,sC];refine jjaa (v:=?v4_5) aZ4 ?y4_5 HT ?r4_5
   case y4_5=>intro wx hx;obtain⟨⟩:=hx;go_simp;try (with_reducible rfl)
   simp only[Act.put,sA,sB,sC];refine jjaa (v:=?v5_6) aZ5 ?y5_6 HT ?r5_6
   case y5_6=>intro wx hx;obtain⟨⟩:=hx;go_simp;try (with_reducible rfl)
   simp only[Act.put,sA,sB,sC];refine jjaa (v:=?v6_7) aZ6 ?y6_7 HT ?r6_7
   case y6_7=>intro wx hx;obtain⟨⟩:=hx;go_simp;try (with_reducible rfl)
   simp only[Act.put,sA,sB,sC];refine jjab aZ7 (fun K hK=>?_)
   refine Lib.wp_copy_run _ _ _ 36 36 rfl _ _ rfl rfl HR3.out ?_
   refine hK _ _ (.inr trivial) ?_
   try simp only[Act.put,sA,sB,sC]
   have HT2:(fun _:World=>True) (w3.drew.setRow G ((repL (k+c) n x).map (Value.int .i64)).toArray):=trivial;refine jjaa (v:=?v8_8) aZ8 ?y8_8 HT2 ?r8_8
   case y8_8=>intro wx hx;obtain⟨⟩:=hx;go_simp;try (with_reducible rfl)
   simp only[Act.put,sA,sB,sC];refine jjaa (v:=?v9_9) aZ9 ?y9_9 HT2 ?r9_9
   case y9_9=>intro wx hx;obtain⟨⟩:=hx;go_simp;try (with_reducible rfl)
   simp only[Act.put,sA,sB,sC];refine jjad (by kernel_rfl) (NoPanic.normal ?_)
   try simp only[Act.put,sA,sB,sC]
   go_wp2;go_roundw
   case rel=>exact ⟨k+c,by go_num,by omega,hc1.2,G4,W4⟩
   case measure=>simp [intOf];omega
  ·have k1:¬ (k:Int)<(n:Int):=by omega
   obtain rfl:k=n:=by omega
   rw[repL_all]at hB;go_wp2;go_ret;exact⟨G,rfl,by simpa using hB.out,hGe,hW.out⟩
end Go.Proofs.YtppkiejhhmahcaaGreatDoor.Wt
