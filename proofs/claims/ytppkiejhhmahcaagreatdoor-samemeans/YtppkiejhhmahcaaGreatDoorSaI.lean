/- Facts, joined. -/
import Derived.Test.YtppkiejhhmahcaaGreatDoorSaG
import Derived.Test.YtppkiejhhmahcaaGreatDoorSaH
import Derived.ChangeAlike
set_option linter.unusedSimpArgs false
set_option linter.unusedVariables false
set_option maxHeartbeats 6400000
set_option maxRecDepth 100000
namespace Go.Proofs.YtppkiejhhmahcaaGreatDoor.Wt
open ChangeShapes WideShapes ChangeAt RowKit Pl
theorem JnI.kept {wr w':World}{base J gn n:Nat}{vk vf:Value}{Ns:List Int}{Lc:List Nat}(h:JnI wr base J gn n vk vf Ns Lc){b':Nat}{e:TypeId}{s:Nat}{vo:Value}{m:Nat}{ms:List Value}(ho:wr.ownsRow b' e s vo m ms)(h1:e≠3)(h2:e≠148)(hg:wr.grownBy w' vo.ownBlock):JnI w' base J gn n vk vf Ns Lc:=
 ⟨h.jb.grown hg (jjak ho h.jb h2),h.nb.grown hg (jjak ho h.nb h1),World.ownsRow.kept h.fs hg (jjcm h.fs ho (Ne.symm h1)),h.ne,h.hJ,h.hg⟩
theorem res_join (tm:Array Value)(W:World)(R:Nat)(x0 x1:Value)(hB:Blk W R #[x0,x1] 24)(h4:tm.getD 4 undef= .pointer (some ⟨R,0,none⟩)):(results Tryz.f54 tm).run Tryz.prog W= .ok (.agg #[x0,x1]) W:=by
 have c0:=hB.cell 0 (v:=x0) rfl;have c1:=hB.cell 1 (v:=x1) rfl;simp only[Array.getD_eq_getD_getElem?]at h4;simp[results,Tryz.results54,go_sem,h4,c0,c1]
structure HeldOx (Mb:Nat)(vs:Value)(J:Nat)(vf:Value)(bL o:Nat)(t:Nat)(b o1:Nat)(f1:Int)(v1:Value)(w:World):Prop where
 h0:w.cell? ⟨Mb,1,none⟩=some vs
 h1:w.cell? ⟨J,2,none⟩=some vf
 h2:w.cell? ⟨bL,o,none⟩=some (.int .i64 (t:Int))
 h3:w.cell? ⟨b,o1,none⟩=some (.int .i64 f1)
 h4:w.cell? ⟨b,o1+1,none⟩=some v1
theorem HeldOx.later {Mb:Nat}{vs:Value}{J:Nat}{vf:Value}{bL o:Nat}{t:Nat}{b o1:Nat}{f1:Int}{v1:Value}{w w':World}(h:HeldOx Mb vs J vf bL o t b o1 f1 v1 w)(hb:Below w.heap.size w w'):HeldOx Mb vs J vf bL o t b o1 f1 v1 w':=
 ⟨(hb.cell (World.block_lt_of_cell? _ _ h.h0)).trans h.h0,(hb.cell (World.block_lt_of_cell? _ _ h.h1)).trans h.h1,(hb.cell (World.block_lt_of_cell? _ _ h.h2)).trans h.h2,(hb.cell (World.block_lt_of_cell? _ _ h.h3)).trans h.h3,(hb.cell (World.block_lt_of_cell? _ _ h.h4)).trans h.h4⟩
def HeldT2 (Sb:Nat)(fin:Int)(va:Value)(w:World):Prop:=w.cell? ⟨Sb,0,none⟩=some (.int .i64 fin)∧w.cell? ⟨Sb,1,none⟩=some va
structure JdI (w wr:World)(cm:Array Value)(J gn n:Nat)(vk vf vs:Value)(Ns:List Int)(L:List Nat)(S:List St):Prop where
 mb:Blk wr w.heap.size cm 24
 rb:Blk wr (w.heap.size+1) #[.int .i64 0,.slice none 0 0] 24
 jn:JnI wr (w.heap.size+2) J gn n vk vf Ns L
 sts:OwnSts wr (w.heap.size+2) vs S
 bel:Below w.heap.size w wr
 size:w.heap.size+2≤wr.heap.size
section
variable {w wr w':World} {cm:Array Value} {J gn n:Nat} {vk vf vf' vs vs':Value} {Ns Ns':List Int} {L L':List Nat} {S S':List St}
theorem JdI.later (h:JdI w wr cm J gn n vk vf vs Ns L S)(hb:Below wr.heap.size wr w'):JdI w w' cm J gn n vk vf vs Ns L S:=⟨h.mb.below hb h.mb.lt,h.rb.below hb h.rb.lt,h.jn.later hb,h.sts.laterB hb,h.bel.trans (hb.mono h.bel.size),Nat.le_trans h.size hb.size⟩
theorem JdI.next (h:JdI w wr cm J gn n vk vf vs Ns L S)(hb:Below (w.heap.size+2) wr w')(hj:JnI w' (w.heap.size+2) J gn n vk vf' Ns' L')(hs:OwnSts w' (w.heap.size+2) vs' S'):JdI w w' cm J gn n vk vf' vs' Ns' L' S':=⟨h.mb.below hb (by omega),h.rb.below hb (by omega),hj,hs,h.bel.trans (hb.mono (by omega)),Nat.le_trans h.size hb.size⟩
end
theorem joined_any (zn:Nat)(l:List St)(a:Option Addr)(cap gk:Nat)(K:List Int)(w:World)(h:Mach w (.agg #[.int .i64 (zn:Int),.slice a l.length cap]) ((zn:Int),l))(hr:faultM ((zn:Int),l)=0)(hzl:zn<l.length)(hK:KndF l K)(hB:Blk w gk (K.map (Value.int .i64)).toArray 3):
  Calls Tryz.prog 54 #[.agg #[.int .i64 (zn:Int),.slice a l.length cap],.slice (some ⟨gk,0,none⟩) l.length l.length] w fun e w'=>∃ (vs:Value) (x:Mc),e= .returned (.agg #[.int .i64 x.1,vs])∧(∃ f,FstC l f∧lstA l f zn=(x,0))∧OwnSts w' (w.heap.size+2) vs x.2∧Below w.heap.size w w':=by
 obtain⟨f,hf⟩:=cls_exists (to_of hr)
 have h60:l.length≤60:=(jjae hr).1;obtain⟨vs',hvs,hS⟩:=h
 simp only[Value.agg.injEq,Array.mk.injEq,List.cons.injEq,and_true,true_and]at hvs;subst hvs;obtain⟨a',cap',hsl,hc⟩:=hS.get
 simp only[Value.slice.injEq,true_and]at hsl;obtain⟨rfl,rfl⟩:=hsl
 have HC:Hid (∀ j,j<l.length→∃ b off va,a=some ⟨b,off,none⟩∧b<w.heap.size∧w.cell? ⟨b,off+j*2,none⟩=some (.int .i64 (el l j).1)∧w.cell? ⟨b,off+j*2+1,none⟩=some va∧Arcs w va (el l j).2):=hc;have HF:=hidP hf;have HR:=hidP hr;have HBK:=hidP hB;have HKR:=hidP hK.rng;have HKF:Hid (∀ q p,q<l.length→p<l.length→(el K q=el K p↔f q=f p)):=fun q p hq hp=>(hK.iff q p hq hp).trans (hf.one q p hq hp).symm
 have HKL:=hidP hK.len;have HEND:Hid (∀ x,lstA l f zn=(x,0)→∃ f,FstC l f∧lstA l f zn=(x,0)):=fun x hx=>⟨f,hf,hx⟩
 have HI0:=hidP (BfsI.init (l:=l) (f:=f) (s:=zn) hzl);obtain⟨Q,hQ⟩:∃ Q:Mc→Prop,(fun x=>∃ f,FstC l f∧lstA l f zn=(x,0))=Q:=⟨_,rfl⟩
 have HEND:Hid (∀ x,lstA l f zn=(x,0)→Q x):=fun x hx=>by rw[← hQ];exact HEND.out x hx
 have hgoal:∀ (P:Ending→World→Prop),True:=fun _=>trivial
 refine Calls.mono (R:=fun e w'=>∃ (vs:Value) (x:Mc),e= .returned (.agg #[.int .i64 x.1,vs])∧Q x∧OwnSts w' (w.heap.size+2) vs x.2∧Below w.heap.size w w') ?_ (fun e w' ⟨v,x,h1,h2,h3,h4⟩=>⟨v,x,h1,by rw[← hQ]at h2;exact h2,h3,h4⟩)
 clear hS hc hr hK hB hf hQ hgoal;obtain⟨n,hn⟩:∃ n,l.length=n:=⟨_,rfl⟩
 rw[hn]at h60 HC HKR HKF HKL hzl ⊢;have HN:=hidP hn;clear hn;have hA1:=(Below.refl w.heap.size w).alloc (Nat.le_refl _) (.cells #[.int .i64 (zn:Int),.slice a n cap] 24);have hA2:=hA1.alloc hA1.size (.cells #[.int .i64 0,.slice none 0 0] 24);have W2:=hidP hA2;have M2:=hidP ((Blk.made w #[.int .i64 (zn:Int),.slice a n cap] 24).alloc (.cells #[.int .i64 0,.slice none 0 0] 24))
 have R2:=Blk.made (w.alloc (.cells #[.int .i64 (zn:Int),.slice a n cap] 24)) #[.int .i64 0,.slice none 0 0] 24;rw[World.size_alloc]at R2;have R2:=hidP R2;have HS2:Hid (((w.alloc (.cells #[.int .i64 (zn:Int),.slice a n cap] 24)).alloc (.cells #[.int .i64 0,.slice none 0 0] 24)).heap.size=w.heap.size+2):=by (show _=_);simp
 clear hA1 hA2;go_enter Tryz.func54,Tryz.ntmps54;go_upto_region 1 with fail
 generalize (w.alloc (.cells #[.int .i64 (zn:Int),.slice a n cap] 24)).alloc (.cells #[.int .i64 0,.slice none 0 0] 24)=w2 at *;have hA3:=(Below.refl w2.heap.size w2).alloc (Nat.le_refl _) (.cells #[.int .i64 (-1)] 3);have HRP:=hidP (repeat_any (-1) w2.heap.size n (w2.alloc (.cells #[.int .i64 (-1)] 3)) ((Blk.made w2 #[.int .i64 (-1)] 3).cell 0 rfl) (by omega) (by omega))
 have M3:=hidP (M2.out.below hA3 M2.out.lt);have R3:=hidP (R2.out.below hA3 R2.out.lt);have W3:=hidP (W2.out.trans (hA3.mono W2.out.size));have hs3:=hA3.size;clear hA3 M2 R2 W2;go_upto_region 2 with(first
  | (go_at_call 115;(with_reducible refine HRP.out.mono ?_);rintro e w4 ⟨gn,rfl,hg4,hge4,hb4⟩;have G4:=hidP hg4;have M4:=hidP (M3.out.below hb4 M3.out.lt);have R4:=hidP (R3.out.below hb4 R3.out.lt);have W4:=hidP (W3.out.trans (hb4.mono W3.out.size));have hs4:=Nat.le_trans hs3 hb4.size;have hgn:=Nat.le_trans hs3 hge4;clear hg4 hge4 hb4 HRP M3 R3 W3))
 have hA5:=(Below.refl w4.heap.size w4).alloc (Nat.le_refl _) (.cells #[.slice (some ⟨gk,0,none⟩) n n,.slice (some ⟨gn,0,none⟩) n n,.slice none 0 0] 148);have M5:=hidP (M4.out.below hA5 M4.out.lt);have R5:=hidP (R4.out.below hA5 R4.out.lt);have W5:=hidP (W4.out.trans (hA5.mono W4.out.size))
 have J5:Hid (JnI (w4.alloc (.cells #[.slice (some ⟨gk,0,none⟩) n n,.slice (some ⟨gn,0,none⟩) n n,.slice none 0 0] 148)) (w.heap.size+2) w4.heap.size gn n (.slice (some ⟨gk,0,none⟩) n n) (.slice none 0 0) (List.replicate n (-1)) []):=⟨Blk.made _ _ _,G4.out.below hA5 G4.out.lt,World.ownsRow_nil _ _ _ _,by simp[Value.ownBlock],by have:=HS2.out;omega,by have:=HS2.out;omega⟩
 have hs5:=Nat.le_trans hs4 hA5.size;clear hA5 M4 R4 W4 G4;generalize w4.alloc (.cells #[.slice (some ⟨gk,0,none⟩) n n,.slice (some ⟨gn,0,none⟩) n n,.slice none 0 0] 148)=w5 at *;obtain⟨J,hJ⟩:∃ J,J=w4.heap.size:=⟨_,rfl⟩
 rw[← hJ]at J5 ⊢;clear hJ hs4 hgn hs3;have hsz5:w.heap.size+2≤w5.heap.size:=by have:=HS2.out;omega
 have HNJ:=hidP (numJ_any w w5 (w.heap.size+2) J gn gk n _ K _ [] zn J5.out (NbI.init n K) HKR.out HKL.out HBK.out W5.out (by omega) hzl h60 (by simp) hsz5);have m0:=M5.out.cell 0 (v:= .int .i64 (zn:Int)) rfl;clear HS2 hs5;go_wp2_with (first
  | (go_at_call 116;(with_reducible refine HNJ.out.mono ?_);rintro e w6 ⟨jx,vf6,Ns6,Lc6,rfl,hnj,hnb,hjn,hjk,hbb⟩;obtain rfl:Lc6=[zn]:=(by rcases hnj with⟨h1,_⟩ | ⟨_,_,h3⟩;exact absurd h1 (by simp);exact h3);have NB6:=hidP hnb;have D6:Hid (JdI w w6 #[.int .i64 (zn:Int),.slice a n cap] J gn n (.slice (some ⟨gk,0,none⟩) n n) vf6 (.slice none 0 0) Ns6 [zn] []):=⟨M5.out.below hbb (by omega),R5.out.below hbb (by omega),hjn,OwnSts.nil _ _,W5.out.trans (hbb.mono (by omega)),Nat.le_trans hsz5 hbb.size⟩;clear hnj hnb hjn hjk hbb HNJ))
 clear m0 M5 R5 W5 J5 hsz5;go_loopw [6,7] (fun s6 s7 wr=>∃ (q nn:Nat) (vs vf:Value) (Ns:List Int) (L:List Nat) (S:List St),vs=s6∧s7= .int .i64 (q:Int)∧Hid (BfsI l f zn q L S nn)∧Hid (NbI n K Ns L)∧Hid (JdI w wr #[.int .i64 (zn:Int),.slice a n cap] J gn n (.slice (some ⟨gk,0,none⟩) n n) vf vs Ns L S)) (fun _ s7 _=>61-(intOf s7).toNat)
 case atStart=>exact ⟨0,0,_,vf6,Ns6,[zn],[],rfl,rfl,HI0,NB6,D6⟩
 case round=>
  clear HI0 NB6 D6;obtain⟨q,nn,vs,vf,Ns,L,S,rfl,rfl,hI,hNB,hD⟩:=hrel
  obtain⟨w7,hw7⟩:∃ w7,w7=wr:=⟨_,rfl⟩
  subst hw7;obtain⟨hl60,hn4,hSl,hqL⟩:=hI.out.l60
  obtain⟨al,cl,hvl⟩:=hD.out.jn.fs.sl
  subst hvl;have j2:=hD.out.jn.jb.cell 2 (v:= .slice al L.length cl) rfl;obtain⟨asv,cs,hvs⟩:=hD.out.sts.sts.sl
  rw[hSl]at hvs;subst hvs;by_cases hlt:q<L.length
  ·have q0:(0:Int)≤(q:Int):=Int.natCast_nonneg _
   have q1:(q:Int)<(L.length:Int):=by omega
   obtain⟨bL,oL,hbL,hbLl,c0⟩:=hD.out.jn.fs.cell hlt
   subst hbL;have hol:el L q<n:=hNB.out.low _ (jjac hlt);obtain⟨b,off,va,hab,hbl,g0,g1,gA⟩:=HC.out (el L q) hol
   subst hab;have GA:=hidP gA;have g0:=(hD.out.bel.cell (p:=⟨b,off+el L q*2,none⟩) hbl).trans g0;have g1:=(hD.out.bel.cell (p:=⟨b,off+el L q*2+1,none⟩) hbl).trans g1;have HDN:=hidP (fun Lc ar (h:ArcI l f L (el L q) (el l (el L q)).2.length Lc ar)=>ArcI.done HR.out HF.out (by rw[HN.out];exact hzl) hI.out hlt h)
   have HLN:=hidP (fun i Lc ar (h:ArcI l f L (el L q) i Lc ar) hi=>ArcI.len HR.out HF.out (by rw[HN.out];exact hzl) hI.out hlt h hi);have A0:=hidP (ArcI.init (o:=el L q) hI.out);have HTO:Hid (∀ i,i<(el l (el L q)).2.length→∃ t:Nat,(el (el l (el L q)).2 i).2.2.2=(t:Int)∧t<n):=fun i hi=>by have h9:=to_of HR.out (el L q) (by rw[HN.out];exact hol) _ (jjac hi);rw[HN.out]at h9;exact h9
   have h400:(el l (el L q)).2.length≤400:=(jja7 HR.out (el L q) (by simp only;rw[HN.out];exact hol)).2.1;clear gA;obtain⟨o,ho⟩:∃ o,el L q=o:=⟨_,rfl⟩
   rw[ho]at c0 hol g0 g1 GA HDN HLN A0 HTO h400;clear ho;obtain⟨so,hso⟩:∃ so,el l o=so:=⟨_,rfl⟩
   have HSO:=hidP hso;rw[hso]at g0 GA HDN HLN HTO h400;clear hso;obtain⟨fin,ar⟩:=so
   simp only at g0 GA HDN HLN HTO h400;obtain⟨aa,ca,hva,_⟩:=GA.out.get
   subst hva;have o0:(0:Int)≤(o:Int):=Int.natCast_nonneg _;have o1:(o:Int)<(n:Int):=by omega
   have HLED:=hidP (fun W (hW:JnI W (w.heap.size+2) J gn n (.slice (some ⟨gk,0,none⟩) n n) (.slice (some ⟨bL,oL,none⟩) L.length cl) Ns L) (hb:Below w.heap.size w W) (hz:w.heap.size+2≤W.heap.size)=>led_any w W l f L o (w.heap.size+2) J gn gk n _ K Ns (.slice aa ar.length ca) fin ar hW hNB.out HKR.out HKL.out HBK.out GA.out hb (by omega) h60 HN.out hz HKF.out HSO.out HTO.out h400 A0.out HLN.out)
   obtain⟨nA,hnA⟩:∃ nA,ar.length=nA:=⟨_,rfl⟩
   rw[hnA]at g1 HDN HLED h400;clear hnA;have hB8:Below w7.heap.size w7 (w7.alloc (.cells #[.int .i64 fin,.slice aa nA ca] 45)).drew:=((Below.refl w7.heap.size w7).alloc (Nat.le_refl _) _).drew;have D8:=hidP (hD.out.later hB8)
   have S8:Hid (Blk (w7.alloc (.cells #[.int .i64 fin,.slice aa nA ca] 45)).drew w7.heap.size #[.int .i64 fin,.slice aa nA ca] 45):=Blk.made w7 #[.int .i64 fin,.slice aa nA ca] 45;have HS:HeldOx w.heap.size (.slice (some ⟨b,off,none⟩) n cap) J (.slice (some ⟨bL,oL,none⟩) L.length cl) bL (oL+q) o b (off+o*2) fin (.slice aa nA ca) w7:=⟨hD.out.mb.cell 1 rfl,j2,c0,g0,g1⟩
   have HSd:HeldOx w.heap.size (.slice (some ⟨b,off,none⟩) n cap) J (.slice (some ⟨bL,oL,none⟩) L.length cl) bL (oL+q) o b (off+o*2) fin (.slice aa nA ca) w7.drew:=HS.later (Below.refl w7.heap.size w7).drew
   have HSa:HeldOx w.heap.size (.slice (some ⟨b,off,none⟩) n cap) J (.slice (some ⟨bL,oL,none⟩) L.length cl) bL (oL+q) o b (off+o*2) fin (.slice aa nA ca) (w7.alloc (.cells #[.int .i64 fin,.slice aa nA ca] 45)).drew:=HS.later hB8;have hSs:some w7.heap.size≠(Value.slice asv q cs).ownBlock:=fun e=>by
    obtain⟨us,u1,_,_⟩:=hD.out.sts
    have:=(u1.lt _ e.symm).2;omega
   have HSs:=hidP hSs;clear c0 g0 g1 GA HS hB8 HLN A0 HTO hSs;go_upto_region 7 with fail
   clear j2;refine jjaf (HeldOx w.heap.size (.slice (some ⟨b,off,none⟩) n cap) J (.slice (some ⟨bL,oL,none⟩) L.length cl) bL (oL+q) o b (off+o*2) fin (.slice aa nA ca)) 1000 (by kernel_rfl) ?_
   refine jjaa (v:=?v0_1) aZ0 ?y0_1 HSd ?r0_1
   case y0_1=>intro wx hx;obtain⟨h0,h1,h2,h3,h4⟩:=hx;go_simp;try (with_reducible rfl)
   simp only[Act.put,sA,sB,sC];refine jjaa (v:=?v1_2) aZ1 ?y1_2 HSd ?r1_2
   case y1_2=>intro wx hx;obtain⟨h0,h1,h2,h3,h4⟩:=hx;go_simp;try (with_reducible rfl)
   simp only[Act.put,sA,sB,sC];refine jjaa (v:=?v2_3) aZ2 ?y2_3 HSd ?r2_3
   case y2_3=>intro wx hx;obtain⟨h0,h1,h2,h3,h4⟩:=hx;go_simp;try (with_reducible rfl)
   simp only[Act.put,sA,sB,sC];refine jjaa (v:=?v3_4) aZ3 ?y3_4 HSd ?r3_4
   case y3_4=>intro wx hx;obtain⟨h0,h1,h2,h3,h4⟩:=hx;go_simp;try (with_reducible rfl)
   simp only[Act.put,sA,sB,sC];refine jjaa (v:=?v4_5) aZ4 ?y4_5 HSd ?r4_5
   case y4_5=>intro wx hx;obtain⟨h0,h1,h2,h3,h4⟩:=hx;go_simp;try (with_reducible rfl)
   simp only[Act.put,sA,sB,sC];refine jjaa (v:=?v5_6) aZ5 ?y5_6 HSd ?r5_6
   case y5_6=>intro wx hx;obtain⟨h0,h1,h2,h3,h4⟩:=hx;go_simp;try (with_reducible rfl)
   simp only[Act.put,sA,sB,sC];refine jjaa (v:=?v6_7) aZ6 ?y6_7 HSd ?r6_7
   case y6_7=>intro wx hx;obtain⟨h0,h1,h2,h3,h4⟩:=hx;go_simp;try (with_reducible rfl)
   simp only[Act.put,sA,sB,sC];refine jjaa (v:=?v7_8) aZ7 ?y7_8 HSd ?r7_8
   case y7_8=>intro wx hx;obtain⟨h0,h1,h2,h3,h4⟩:=hx;go_simp;try (with_reducible rfl)
   simp only[Act.put,sA,sB,sC];refine jjaa (v:=?v8_9) aZ8 ?y8_9 HSd ?r8_9
   case y8_9=>intro wx hx;obtain⟨h0,h1,h2,h3,h4⟩:=hx;go_simp;try (with_reducible rfl)
   simp only[Act.put,sA,sB,sC];refine jjab aZ9 (fun K hK=>?_)
   go_simp;refine hK _ _ (.inr (HSd.later ((Below.refl _ _).alloc (Nat.le_refl _) _))) ?_
   try simp only[Act.put,sA,sB,sC]
   refine jjab aZ10 (fun K hK=>?_)
   go_simp;refine hK _ _ (.inr HSa) (jjad (by kernel_rfl) (NoPanic.normal ?_))
   try simp only[Act.put,sA,sB,sC]
   clear HSd HSa hD;generalize (w7.alloc (.cells #[.int .i64 fin,.slice aa nA ca] 45)).drew=w8 at *;obtain⟨Sb,hSb⟩:∃ Sb,Sb=w7.heap.size:=⟨_,rfl⟩
   rw[← hSb]at S8 HSs ⊢;clear hSb;have D9:=hidP (D8.out.later (Below.refl w8.heap.size w8).drew);have S9:Hid (Blk w8.drew Sb #[.int .i64 fin,.slice aa nA ca] 45):=S8.out;have HT:HeldT2 Sb fin (.slice aa nA ca) w8.drew:=⟨S9.out.cell 0 rfl,S9.out.cell 1 rfl⟩
   have HC9:=hidP (HLED.out w8.drew D9.out.jn D9.out.bel D9.out.size);have hSJ:Sb≠J:=blkNeL S9.out D9.out.jn.jb (by decide);clear D8 S8 HLED;go_upto_region 8 with fail
   refine jjaf (HeldT2 Sb fin (.slice aa nA ca)) 1000 (by kernel_rfl) ?_
   refine jjaa (v:=?v0_10) aZ0 ?y0_10 HT ?r0_10
   case y0_10=>intro wx hx;obtain⟨h0,h1⟩:=hx;go_simp;try (with_reducible rfl)
   simp only[Act.put,sA,sB,sC];refine jjaa (v:=?v1_11) aZ1 ?y1_11 HT ?r1_11
   case y1_11=>intro wx hx;obtain⟨h0,h1⟩:=hx;go_simp;try (with_reducible rfl)
   simp only[Act.put,sA,sB,sC];refine jjaa (v:=?v2_12) aZ2 ?y2_12 HT ?r2_12
   case y2_12=>intro wx hx;obtain⟨h0,h1⟩:=hx;go_simp;try (with_reducible rfl)
   simp only[Act.put,sA,sB,sC];refine jjaa (v:=?v3_13) aZ3 ?y3_13 HT ?r3_13
   case y3_13=>intro wx hx;obtain⟨h0,h1⟩:=hx;go_simp;try (with_reducible rfl)
   simp only[Act.put,sA,sB,sC];refine jjaa (v:=?v4_14) aZ4 ?y4_14 HT ?r4_14
   case y4_14=>intro wx hx;obtain⟨h0,h1⟩:=hx;go_simp;try (with_reducible rfl)
   simp only[Act.put,sA,sB,sC];refine jjab aZ5 (fun K hK=>?_)
   go_simp;with_reducible refine HC9.out.mono ?_
   rintro e w10 ⟨G,vf10,Ns10,Lc,ac,rfl,hA10,hN10,hJ10,hO10,hK10,hB10⟩
   have S10:=hidP (hK10.2 _ _ _ S9.out hSJ (by decide));have HT10:HeldT2 Sb fin (.slice aa nA ca) w10:=⟨S10.out.cell 0 rfl,S10.out.cell 1 rfl⟩
   have A10:=hidP hA10;have N10:=hidP hN10;have D10:=hidP (D9.out.next hB10 hJ10 (hK10.sts D9.out.jn.jb D9.out.sts));have O10:=hidP hO10;clear hA10 hN10 hJ10 hO10 hK10 hB10 HC9 D9 S9;refine hK _ _ (.inr HT10) ?_
   try simp only[Act.put,sA,sB,sC]
   refine jjaa (v:=?v6_15) aZ6 ?y6_15 HT10 ?r6_15
   case y6_15=>intro wx hx;obtain⟨h0,h1⟩:=hx;go_simp;try (with_reducible rfl)
   simp only[Act.put,sA,sB,sC];have hA11:=(Below.refl w10.heap.size w10).alloc (Nat.le_refl _) (.cells #[.int .i64 fin,.slice (some ⟨G,0,none⟩) nA nA] 45);have HT11:HeldT2 Sb fin (.slice aa nA ca) (w10.alloc (.cells #[.int .i64 fin,.slice (some ⟨G,0,none⟩) nA nA] 45)):=⟨(S10.out.below hA11 S10.out.lt).cell 0 rfl,(S10.out.below hA11 S10.out.lt).cell 1 rfl⟩
   obtain⟨v11,w11,r11,ho11,hb11,hg11⟩:=jjfe (W:=w10.alloc (.cells #[.int .i64 fin,.slice (some ⟨G,0,none⟩) nA nA] 45)) (w1:=w10) (fin,ac) S (.slice (some ⟨G,0,none⟩) nA nA) (.slice asv q cs) (w.heap.size+2) rfl rfl rfl rfl D10.out.sts O10.out (by omega) D10.out.size
   obtain⟨a11,c11,hv11⟩:=ho11.sts.sl
   rw[show (S++[(fin,ac)]).length=q+1 by rw[List.length_append,hSl];rfl]at hv11;subst hv11;obtain⟨vs12,q12,_,_⟩:=(D10.out.later hA11).sts
   have J11:=(D10.out.later hA11).jn.kept q12 (by decide) (by decide) hg11;have S11:Blk w11 Sb #[.int .i64 fin,.slice aa nA ca] 45:=(S10.out.below hA11 S10.out.lt).grown hg11 HSs.out;have HT12:HeldT2 Sb fin (.slice aa nA ca) w11:=⟨S11.cell 0 rfl,S11.cell 1 rfl⟩
   have D11:=hidP (D10.out.next hb11 J11 ho11);have R11:=hidP r11;clear r11 ho11 hb11 hg11 J11 S11 q12 hA11 O10 S10;refine jjab aZ7 (fun K hK=>?_)
   go_simp;refine hK _ _ (.inr HT11) ?_
   try simp only[Act.put,sA,sB,sC]
   refine jjab aZ8 (fun K hK=>?_)
   refine jjaw _ _ 22 rfl rfl rfl R11.out ?_
   refine hK _ _ (.inr HT12) ?_
   try simp only[Act.put,sA,sB,sC]
   refine jjaa (v:=?v9_16) aZ9 ?y9_16 HT12 ?r9_16
   case y9_16=>intro wx hx;obtain⟨h0,h1⟩:=hx;go_simp;try (with_reducible rfl)
   simp only[Act.put,sA,sB,sC];refine jjad (by kernel_rfl) (NoPanic.normal ?_)
   try simp only[Act.put,sA,sB,sC]
   have HNX:=hidP (HDN.out Lc ac A10.out);clear HT HT10 HT11 HT12 HDN A10 R11 D10;go_wp2;go_roundw
   case rel=>exact ⟨q+1,nn+nA,_,vf10,Ns10,Lc,_,rfl,by go_num,HNX,N10,D11⟩
   case measure=>simp [intOf];omega
  ·have q1:¬ (q:Int)<(L.length:Int):=by omega
   have HXE:=hidP (HEND.out _ (hI.out.stop hlt));have e0:=hD.out.rb.cell 0 (v:= .int .i64 0) rfl;have e1:=hD.out.rb.cell 1 (v:= .slice none 0 0) rfl;have g0:=hD.out.rb.fz 0;have g1:=hD.out.rb.fz 1;clear hSl;repeat (first | go_skip | go_guarded | go_step | go_upon)
   exact bodyPost_ret (res_join _ _ (w.heap.size+1) _ _ ((hD.out.rb.set 0 (.int .i64 0)).set 1 (.slice asv q cs)) rfl) rfl ⟨_,_,rfl,HXE.out,(hD.out.sts.setM hD.out.rb 0 _).setM (hD.out.rb.set 0 _) 1 _,(hD.out.bel.setCell (p:=⟨w.heap.size+1,0,none⟩) (by show w.heap.size≤w.heap.size+1;omega) _).setCell (p:=⟨w.heap.size+1,1,none⟩) (by show w.heap.size≤w.heap.size+1;omega) _⟩
def psdA (vs:List Int)(own:Int)(a:Ar):Ar:=(a.1,a.2.1,a.2.2.1+(el vs a.2.2.2.toNat-own),a.2.2.2)
theorem psdA_psh (vs:List Int)(q:Nat):psdA vs (el vs q)=pshA vs q:=by
 funext a
 unfold psdA pshA;rw[Int.add_sub_assoc]
def PsdRes (r:Bool)(x:List Ar)(w:World)(e:Ending)(w':World):Prop:=
 (r=true∧e= .returned (.tuple #[.slice none 0 0,.int .i64 4])∧Below w.heap.size w w')∨
 (r=false∧∃ v',e= .returned (.tuple #[v',.int .i64 0])∧OwnArcs w' w.heap.size v' x∧Below w.heap.size w w')
theorem psd_any (va vn:Value)(ar:List Ar)(vs:List Int)(n:Nat)(own:Int)(w:World)(hA:Arcs w va ar)(hL4:ar.length≤400)(hN:Nums w vn vs)(hl:vs.length=n)(hvs:∀ j,j<n→0≤el vs j∧el vs j≤1000000001)(hto:∀ a ∈ ar,∃ t:Nat,a.2.2.2=(t:Int)∧t<n)(hwt:∀ a ∈ ar,0≤a.2.2.1∧a.2.2.1≤1000000000)(ho0:0≤own)(ho1:own≤1000000001)(r:Bool)(hr:(ar.any fun a=>decide (1000000000<(psdA vs own a).2.2.1))=r):
  Calls Tryz.prog 112 #[va,vn,.int .i64 own] w fun e w'=>PsdRes r (ar.map (psdA vs own)) w e w':=by
 obtain⟨a2,cap2,rfl,hga⟩:=hA.get
 obtain⟨xn,cn,rfl,hcn⟩:=hN.get
 rw[hl]at hcn ⊢;have HGA:=hidP hga;have HCN:=hidP hcn;have HVS:=hidP hvs;have HTO:=hidP hto;have HWT:=hidP hwt;have HRY:Hid (∀ j,j<ar.length→1000000000<(psdA vs own (el ar j)).2.2.1→r=true):=fun j hj h=>by
  rw[← hr,List.any_eq_true];exact⟨_,jjac hj,by simpa using h⟩
 have HRN:Hid ((∀ j,j<ar.length→(psdA vs own (el ar j)).2.2.1≤1000000000)→r=false):=fun h=>by
  rw[← hr,List.any_eq_false];intro a ha;obtain⟨s,hs,e⟩:=List.getElem_of_mem ha
  have:=h s hs;rw[jjaj hs,e]at this;simpa using this
 clear hA hN hga hcn hvs hto hwt hl hr;obtain⟨G,hG⟩:∃ G:Ar→Ar,psdA vs own=G:=⟨_,rfl⟩
 have HG:=hidP hG;rw[hG]at HRY HRN ⊢;clear hG;generalize hL:ar.length=L at *;have HL:=hidP hL;clear hL;have hmk:=run_arcs L (by omega);go_enter Tryz.func112,Tryz.ntmps112;go_wp2;clear hmk
 go_loopw [16] (fun i wi=>∃ (k:Nat) (xs:List Ar),k≤L∧i= .int .i64 k∧Hid (xs.length=L)∧Hid (Blk wi w.heap.size (xs.flatMap encA).toArray 56)∧Hid (∀ j,j<k→el xs j=G (el ar j))∧Hid (∀ j,j<k→(G (el ar j)).2.2.1≤1000000000)∧Hid (Below w.heap.size w wi)) (fun i _=>L-(intOf i).toNat)
 case atStart=>exact ⟨0,List.replicate L ((0,0,0,0):Ar),Nat.zero_le _,rfl,by show _=_;simp,Blk.made _ _ _,fun j hj=>absurd hj (Nat.not_lt_zero _),fun j hj=>absurd hj (Nat.not_lt_zero _),(Below.refl _ _).alloc (Nat.le_refl _) _⟩
 case round=>
  obtain⟨k,xs,hk,rfl,hxl,hbx,hold,hlow,hb⟩:=hrel
  obtain⟨w3,hw3⟩:∃ w3,w3=wr:=⟨_,rfl⟩
  subst hw3;by_cases hlt:k<L
  ·obtain ⟨b3,off3,rfl,hb3l,q0,q1,q2,q3⟩:=HGA.out k hlt
   have q0:=(hb.out.cell (p:=⟨b3,off3+k*4,none⟩) hb3l).trans q0;have q1:=(hb.out.cell (p:=⟨b3,off3+k*4+1,none⟩) hb3l).trans q1;have q2:=(hb.out.cell (p:=⟨b3,off3+k*4+2,none⟩) hb3l).trans q2;have q3:=(hb.out.cell (p:=⟨b3,off3+k*4+3,none⟩) hb3l).trans q3;obtain⟨t,ht,htn⟩:=HTO.out (el ar k) (jjac (by rw[HL.out];exact hlt))
   obtain⟨g0,g1⟩:=HWT.out (el ar k) (jjac (by rw[HL.out];exact hlt))
   have k0:(0:Int)≤(k:Int):=by omega
   have k1:(k:Int)<(L:Int):=by omega
   have t0:(0:Int)≤(t:Int):=by omega
   have t1:(t:Int)<(n:Int):=by omega
   obtain⟨bn,on,rfl,hbnl,m0⟩:=HCN.out t htn
   have m0:=(hb.out.cell (p:=⟨bn,on+t,none⟩) hbnl).trans m0;obtain⟨v0,v1⟩:=HVS.out t htn
   have HGE:Hid (G (el ar k)=((el ar k).1,(el ar k).2.1,(el ar k).2.2.1+(el vs t-own),(t:Int))):=by
    show _=_;rw[← HG.out];unfold psdA;simp only[ht,Int.toNat_natCast]
   have HR1:=hidP (HRY.out k hlt);rw[HGE.out]at HR1;rw[ht]at q3;obtain⟨p,hp⟩:∃ p:Ar,el ar k=p:=⟨_,rfl⟩
   have HP:=hidP hp;rw[hp]at q0 q1 q2 g0 g1 HGE HR1;clear hp ht;obtain⟨p0,p1,p2,p3⟩:=p
   simp only at q0 q1 q2 g0 g1 HGE HR1;generalize el vs t=y at *;have hsz:=hb.out.size;have hbl:=hbx.out.lt;have hbl2:w.heap.size≠w3.heap.size:=by omega
   have hbw:bn<w3.heap.size:=by omega
   have hbw2:bn≠w3.heap.size:=by omega
   have hx0:=hxl.out;have e0:=hbx.out.cell (k*4) (v:= .int .i64 (el xs k).1) (by rw[List.getElem?_toArray];exact jjas jjah xs k (by omega) 0 (by omega));have e1:=hbx.out.cell (k*4+1) (v:= .int .i64 (el xs k).2.1) (by rw[List.getElem?_toArray];exact jjas jjah xs k (by omega) 1 (by omega))
   have e2:=hbx.out.cell (k*4+2) (v:= .int .i64 (el xs k).2.2.1) (by rw[List.getElem?_toArray];exact jjas jjah xs k (by omega) 2 (by omega));have e3:=hbx.out.cell (k*4+3) (v:= .int .i64 (el xs k).2.2.2) (by rw[List.getElem?_toArray];exact jjas jjah xs k (by omega) 3 (by omega));have f0:=hbx.out.fz (k*4);have f1:=hbx.out.fz (k*4+1);have f2:=hbx.out.fz (k*4+2);have f3:=hbx.out.fz (k*4+3);clear hx0
   by_cases hov:1000000000<p2+(y-own)
   ·have HE:=hidP (HR1.out hov)
    go_wp2;go_region;go_wp2;exact bodyPost_ret (v:= .tuple #[.slice none 0 0,.int .i64 4]) (by simp[results,Tryz.results112,go_sem]) rfl (.inl ⟨HE.out,rfl,(hb.out.alloc hb.out.size _).drew⟩)
   ·go_wp2
    go_region;go_wp2;go_roundw
    case rel=>
     refine⟨k+1,xs.set k (p0,p1,p2+(y-own),(t:Int)),by omega,by go_num,?_,?_,?_,?_,?_⟩
     ·show _=_
      simp;exact hxl.out
     ·have h:=(((hbx.out.set (k*4) (.int .i64 p0)).set (k*4+1) (.int .i64 p1)).set (k*4+2) (.int .i64 (p2+(y-own)))).set (k*4+3) (.int .i64 (t:Int))
      rw[set_arc (by rw[hxl.out];omega) (p0,p1,p2+(y-own),(t:Int))]at h;exact h.alloc _
     ·intro j hj
      rw[el_setS (by rw[hxl.out];omega)];by_cases hjk:j=k
      ·subst hjk
       rw[if_pos rfl,HP.out,HGE.out]
      ·rw [if_neg hjk]
       exact hold.out j (by omega)
     ·intro j hj
      by_cases hjk:j=k
      ·subst hjk
       rw[HP.out,HGE.out];simp only;omega
      ·exact hlow.out j (by omega)
     ·have h:=hb.out
      show Below _ _ _;go_grown
    case measure=>simp [intOf];omega
  ·have hke:k=L:=by omega
   have hnl:¬ (k:Int)<(L:Int):=by omega
   have hxe:xs=ar.map G:=by
    refine jjc2 (by rw[List.length_map,HL.out];exact hxl.out) fun j hj=>?_
    rw[hold.out j (by rw[hxl.out]at hj;omega),jja2 (by rw[HL.out];rw[hxl.out]at hj;omega)]
   have HE:=hidP (HRN.out fun j hj=>hlow.out j (by omega));have HOW:=hidP (arcs_block (B:=w.heap.size) hbx.out (Nat.le_refl _) (by rw[hxl.out];omega));rw[hxe,List.length_map,HL.out]at HOW;clear hxe;go_wp2
   exact bodyPost_ret (v:= .tuple #[.slice (some ⟨w.heap.size,0,none⟩) L L,.int .i64 0]) (by simp[results,Tryz.results112,go_sem]) rfl (.inr ⟨HE.out,_,rfl,by unfold OwnArcs;rw[List.length_map,HL.out];exact HOW.out,hb.out⟩)
theorem less_any (f o:Int)(w:World)(hf0:0≤f)(hf1:f≤1000000001)(ho0:0≤o)(ho1:o≤1000000001)(r:Int)(hr:(if f=1000000001 then 1000000001 else f-o)=r):
  Calls Tryz.prog 113 #[.int .i64 f,.int .i64 o] w fun e w'=>e= .returned (.int .i64 r)∧Below w.heap.size w w':=by
 by_cases h:f=1000000001
 ·rw [if_pos h]at hr
  subst hr;subst h;go_enter Tryz.func113,Tryz.ntmps113;go_wp2;go_ret;exact⟨rfl,Below.refl _ _⟩
 ·rw [if_neg h]at hr
  subst hr;have h1:(f==1000000001)=false:=by simpa using h
  go_enter Tryz.func113,Tryz.ntmps113;go_wp2;go_ret;exact⟨rfl,Below.refl _ _⟩
theorem totalOf_any (z:Int)(vn:Value)(vs:List Int)(w:World)(hN:Nums w vn vs)(hz:z<vs.length)(r:Int)(hr:(if z<0 then 0 else el vs z.toNat)=r):
  Calls Tryz.prog 114 #[.int .i64 z,vn] w fun e w'=>e= .returned (.int .i64 r)∧Below w.heap.size w w':=by
 obtain⟨xn,cn,rfl,hcn⟩:=hN.get
 by_cases h:z<0
 ·rw [if_pos h]at hr
  subst hr;clear hcn hN;go_enter Tryz.func114,Tryz.ntmps114;go_wp2;go_ret;exact⟨rfl,Below.refl _ _⟩
 ·rw [if_neg h]at hr
  obtain⟨t,rfl⟩:∃ t:Nat,z=(t:Int):=⟨z.toNat,by omega⟩
  rw[Int.toNat_natCast]at hr;obtain⟨b,o,rfl,hb,m0⟩:=hcn t (by omega)
  rw[hr]at m0;clear hcn hN hr;generalize vs.length=n at *;have t0:(0:Int)≤(t:Int):=by omega
  go_enter Tryz.func114,Tryz.ntmps114;go_wp2;go_ret;exact⟨rfl,Below.refl _ _⟩
def encB (b:Bool):List Value:=[.bool b]
def Bools (w:World)(v:Value)(bs:List Bool):Prop:=Row 1 encB w v bs
theorem Bools.later {w w':World}{v:Value}{bs:List Bool}(h:Bools w v bs){B:Nat}(hb:Below B w w')(hB:w.heap.size≤B):Bools w' v bs:=Row.later h hb hB
theorem Bools.get {w:World}{v:Value}{bs:List Bool}(h:Bools w v bs):∃ a cap,v= .slice a bs.length cap∧∀ j,j<bs.length→∃ b off,a=some ⟨b,off,none⟩∧b<w.heap.size∧w.cell? ⟨b,off+j,none⟩=some (.bool (el bs j)):=by
 by_cases hz:0<bs.length
 ·obtain ⟨b,off,cap,hv,hb,hc⟩:=Row.plain h (fun x=>by simp[encB]) hz
  refine⟨_,cap,hv,fun j hj=>⟨b,off,rfl,hb,?_⟩⟩
  have:=hc j hj 0 _ rfl;rwa [Nat.mul_one,Nat.add_zero]at this
 ·obtain ⟨a,cap,hv⟩:=Row.sl h
  exact⟨a,cap,hv,fun j hj=>by omega⟩
theorem bools_block {w:World}{g cap:Nat}{bs:List Bool}{t:TypeId}(h:Blk w g (bs.map Value.bool).toArray t):Bools w (.slice (some ⟨g,0,none⟩) bs.length cap) bs:=by
  refine .inr ⟨⟨g,0,none⟩,cap,rfl,fun j hj i u hu=>?_⟩
  cases i with
  | zero=>
    rw[Addr.add_lit,Nat.zero_add,Nat.mul_one,Nat.add_zero];refine h.cell _ ?_
    simp[encB]at hu;subst hu;simp[hj,el]
  | succ i=>simp [encB]at hu
theorem made_bools (n:Nat):madeCells (Value.cells (.bool false)) (n*1)=((List.replicate n false).map Value.bool).toArray:=by
 have hz:Value.cells (.bool false)= #[.bool false]:=rfl;apply Array.ext_getElem?
 intro t;simp only[madeCells,hz,Array.getElem?_map,List.map_replicate];by_cases ht:t<n
 ·simp [ht,Nat.mod_one]
 ·simp [ht]
theorem set_bool {bs:List Bool}{q:Nat}:(bs.map Value.bool).toArray.setIfInBounds q (.bool true)=((bs.set q true).map Value.bool).toArray:=by simp[List.map_set]
theorem jjdr {w:World}{g:Nat}{bs:List Bool}{t:TypeId}(h:Blk w g (bs.map Value.bool).toArray t){j:Nat}(hj:j<bs.length):w.cell? ⟨g,j,none⟩=some (.bool (el bs j)):=by
 refine h.cell _ ?_
 simp[hj,el]
theorem infoBool :(Tryz.prog.info? 4).map (fun i=>(i.zero,i.size,i.bytes))=some (some (.bool false),1,1):=by kernel_rfl
theorem own_cut {w:World}{base:Nat}{e:TypeId}{a:Option Addr}{n cap k:Nat}{ws:List Int}(h:w.ownsRow base e 1 (.slice a n cap) n (ws.flatMap encI1))(hk:k<n):
  ∃ g,a=some ⟨g,0,none⟩∧n≤cap∧w.ownsRow base e 1 (.slice (some ⟨g,0,none⟩) k cap) k ((ws.take k).flatMap encI1):=by
 have hlen:=h.1;rw[jjai jjbg]at hlen;rcases h.2 with⟨hv,hn0⟩ | ⟨g,cap',cur,hv,hbg,hg,hnc,hcm,hcs,htake⟩
 ·omega
 ·simp only[Value.slice.injEq,true_and]at hv
  obtain⟨rfl,rfl⟩:=hv
  refine⟨g,rfl,hnc,?_,.inr ⟨g,cap,cur,rfl,hbg,hg,by omega,hcm,hcs,?_⟩⟩
  ·rw [jjai jjbg,List.length_take];omega
  ·have h1:cur.toList.take (k*1)=(cur.toList.take (n*1)).take (k*1):=by rw[List.take_take];congr 1;omega
   rw[h1,htake];have h2:∀ l:List Int,l.flatMap encI1=l.map (Value.int .i64):=fun l=>by
    induction l with
    | nil=>rfl
    | cons x l ih=>rw [List.flatMap_cons,ih];rfl
   rw[h2,h2,List.map_take,Nat.mul_one]
theorem own_num {w:World}{base:Nat}{e:TypeId}{g n cap j:Nat}{ws:List Int}(h:w.ownsRow base e 1 (.slice (some ⟨g,0,none⟩) n cap) n (ws.flatMap encI1))(hj:j<ws.length):w.cell? ⟨g,j,none⟩=some (.int .i64 (el ws j)):=by
 have hc:=h.cells (g:=g) rfl j (.int .i64 (el ws j)) (by
  have:=jjas jjbg ws j hj 0 (by omega)
  rw[Nat.mul_one,Nat.add_zero]at this
  rw[this];rfl)
 rw[Addr.add_lit,Nat.zero_add]at hc;exact hc
def falses (w:World)(b:Nat):Nat:=match w.heap[b]? with
 | some (.cells cs _ _)=>cs.toList.countP fun v=>match v with | .bool false=>true | _=>false
 | _=>0
theorem jjd7 {w:World}{b:Nat}{bs:List Bool}{t:TypeId}(h:Blk w b (bs.map Value.bool).toArray t):falses w b=bs.count false:=by
 unfold Blk at h;unfold falses;rw[h];simp only;rw[List.countP_map];unfold List.count;refine List.countP_congr fun x _=>?_
 cases x<;>simp
def lenV :Value→Nat
 | .slice _ n _=>n
 | _=>0
end Go.Proofs.YtppkiejhhmahcaaGreatDoor.Wt
