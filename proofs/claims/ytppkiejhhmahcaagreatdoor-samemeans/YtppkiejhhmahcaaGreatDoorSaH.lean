/- Facts, joined. -/
import Derived.Test.YtppkiejhhmahcaaGreatDoorSaF
set_option linter.unusedSimpArgs false
set_option linter.unusedVariables false
set_option maxHeartbeats 6400000
set_option maxRecDepth 100000
namespace Go.Proofs.YtppkiejhhmahcaaGreatDoor.Wt
open ChangeShapes WideShapes ChangeAt RowKit Pl
theorem sgT_take {ns:List Int}{k:Nat}(hk:k<ns.length):sgT (ns.take (k+1))=(sgT (ns.take k)++dgT (el ns k))++[32]:=by
 rw[jja0 hk,sgT_snoc]
theorem sgT_take_len {ns:List Int}(h:∀ n ∈ ns,0≤n∧n≤2000000000000)(hl:ns.length≤10000)(k:Nat):(sgT (ns.take k)).length≤140000:=by
 have h1:=sgT_len (l:=ns.take k) (fun p hp=>by have:=h p (List.mem_of_mem_take hp);omega);have h2:(ns.take k).length≤10000:=by rw[List.length_take];omega
 omega
theorem signW_any (w0 w:World)(B b g:Nat)(T:List UInt8)(ns:List Int)(hN:Blk w g (ns.map (Value.int .i64)).toArray 3)(hB:Bld B b T w)(ht:Tab w0)(hb0:Below w0.heap.size w0 w)(hB0:w0.heap.size≤B)(hs:∀ n ∈ ns,0≤n∧n≤2000000000000)(hl:ns.length≤10000)(hT:T.length≤800000)(hBw:B≤w.heap.size)(cap n:Nat)(hn:ns.length=n):
  Calls Tryz.prog 178 #[.slice (some ⟨g,0,none⟩) n cap,.pointer (some ⟨b,0,none⟩)] w fun e w'=>e= .returned (.tuple #[])∧(Bld B b (T++sgT ns) w'∧Below B w w'∧Oth w w'):=by
 have HN:=hidP hN;have HTB:=hidP ht;have HB0:=hidP hb0;have HLN:=hidP (sgT_take_len hs hl);have HTL:Hid (∀ k,k<ns.length→sgT (ns.take (k+1))=(sgT (ns.take k)++dgT (el ns k))++[32]):=fun k hk=>sgT_take hk
 have HALL:Hid (sgT (ns.take ns.length)=sgT ns):=by show _=_;rw[List.take_length]
 have HEL:Hid (∀ k,k<ns.length→0≤el ns k∧el ns k≤2000000000000):=fun k hk=>hs _ (jjac hk)
 have HBS:Hid (Bld B b (T++sgT (ns.take 0)) w):=by show Bld _ _ _ _;simpa [sgT] using hB
 have HW0:=hidP (Below.refl B w);have HO0:=hidP (Oth.refl w);clear hN hB ht hb0 hs;rw[hn]at hl HTL HALL HEL;have HNN:=hidP hn;clear hn;go_enter Tryz.func178,Tryz.ntmps178;go_wp2;go_loopw [7] (fun i wr=>∃ k:Nat,k≤n∧i= .int .i64 k∧Hid (Bld B b (T++sgT (ns.take k)) wr)∧Hid (Below B w wr)∧Hid (Oth w wr)) (fun i _=>n-(intOf i).toNat)
 case atStart=>exact ⟨0,Nat.zero_le _,rfl,HBS,HW0,HO0⟩
 case round=>
  clear HBS HW0 HO0;obtain⟨k,hk,rfl,hB,hW,hO⟩:=hrel
  obtain⟨w1,hw1⟩:∃ w1,w1=wr:=⟨_,rfl⟩
  subst hw1;by_cases hlt:k<n
  ·have k0:(0:Int)≤(k:Int):=Int.natCast_nonneg _
   have k1:(k:Int)<(n:Int):=by omega
   have c0:=jjba (hO.out.blk HN.out (by decide) (by decide)) (j:=k) (by rw[HNN.out];exact hlt);have hsh:=HEL.out k hlt;have HTK:=hidP (HTL.out k hlt);have HL1:=hidP (HLN.out k);obtain⟨p,hpk⟩:∃ p,el ns k=p:=⟨_,rfl⟩
   rw[hpk]at c0 hsh HTK;clear hpk;obtain⟨s0,hs0⟩:∃ s0:ByteArray,⟨(dgT p).toArray⟩=s0:=⟨_,rfl⟩
   have e0:s0.data.toList=dgT p:=by rw[← hs0]
   have z0:s0.size≤13:=by rw[← hs0];exact jjel (by omega)
   have HI0:=hidP (fun W hW=>itoa_dg p W hW hsh.1 (by omega) s0 hs0);have hq0:s0.data.toList.length≤13:=z0;obtain⟨U,hU⟩:∃ U,T++sgT (ns.take k)=U:=⟨_,rfl⟩
   have HUN:Hid (T++sgT (ns.take (k+1))=(U++s0.data.toList)++[32]):=by
    show _=_;rw[HTK.out,← hU,e0];simp
   have HLA:Hid (U.length≤1000000∧(U++s0.data.toList).length≤1000000):=by
    have:=HL1.out;rw[← hU];simp only[List.length_append];exact⟨by omega,by omega⟩
   rw[hU]at hB;clear hU hs0 e0 hsh HL1 HTK;have W1:=hidP (HB0.out.trans (hW.out.mono hB0));have hws:=Nat.le_trans hBw hW.out.size;go_wp2_with (first
    | (go_at_call 169;(with_reducible refine(HI0.out _ (HTB.out.later W1.out)).mono ?_);rintro e w2 ⟨rfl,hb2⟩;have B2:=hidP (hB.out.later hb2);have W2:=hidP (hW.out.trans (hb2.mono hws));have O2:=hidP (hO.out.trans (Oth.of hb2));clear hb2 HI0 W1 hB hW hO)
    | (go_at_call 168;(with_reducible refine(jjdq _ _ _ s0 _ B2.out HLA.out.1 (by omega) (Nat.le_trans hBw W2.out.size)).mono ?_);rintro e w3 ⟨rfl,hB3,hb3,ho3⟩;have B3:=hidP hB3;have W3:=hidP (W2.out.trans hb3);have O3:=hidP (O2.out.trans ho3);clear hB3 hb3 ho3 B2 W2 O2)
    | (go_at_call 170;(with_reducible refine(jjcz _ _ _ 32 32 _ B3.out rfl HLA.out.2 (Nat.le_trans hBw W3.out.size)).mono ?_);rintro e w4 ⟨rfl,hB4,hb4,ho4⟩;have B4:=hidP hB4;have W4:=hidP (W3.out.trans hb4);have O4:=hidP (O3.out.trans ho4);clear hB4 hb4 ho4 B3 W3 O3))
   go_roundw
   case rel=>exact ⟨k+1,by omega,by go_num,by rw[HUN.out];exact B4,W4,O4⟩
   case measure=>simp [intOf];omega
  ·have hk1:¬ (k:Int)<(n:Int):=by omega
   obtain rfl:k=n:=by omega
   rw[HALL.out]at hB;go_wp2;go_end0;exact⟨rfl,hB.out,hW.out,hO.out⟩
structure HeldRl (A:Nat)(x0 x1 x2 t:Int)(b o:Nat)(y:Int)(w:World):Prop where
 h0:w.cell? ⟨A,0,none⟩=some (.int .i64 x0)
 h1:w.cell? ⟨A,1,none⟩=some (.int .i64 x1)
 h2:w.cell? ⟨A,2,none⟩=some (.int .i64 x2)
 h3:w.cell? ⟨A,3,none⟩=some (.int .i64 t)
 h4:w.cell? ⟨b,o,none⟩=some (.int .i64 y)
theorem HeldRl.later {A:Nat}{x0 x1 x2 t:Int}{b o:Nat}{y:Int}{w w':World}(h:HeldRl A x0 x1 x2 t b o y w)(hb:Below w.heap.size w w'):HeldRl A x0 x1 x2 t b o y w':=
 ⟨(hb.cell (World.block_lt_of_cell? _ _ h.h0)).trans h.h0,(hb.cell (World.block_lt_of_cell? _ _ h.h1)).trans h.h1,(hb.cell (World.block_lt_of_cell? _ _ h.h2)).trans h.h2,(hb.cell (World.block_lt_of_cell? _ _ h.h3)).trans h.h3,(hb.cell (World.block_lt_of_cell? _ _ h.h4)).trans h.h4⟩
theorem sgA_take {K:List Int}{l:List Ar}{k:Nat}(h:k<l.length):(l.take (k+1)).flatMap (sgA K)=(l.take k).flatMap (sgA K)++sgA K (el l k):=by
 rw[jja0 h,List.flatMap_append];simp
theorem signOf_any (f:Int)(va vk:Value)(l:List Ar)(K:List Int)(w:World)(hA:Arcs w va l)(hK:Nums w vk K)(ht:Tab w)(hl:l.length≤400)(hf:0≤f∧f≤2000000000000)(hs:∀ i,i<l.length→(0≤(el l i).1∧(el l i).1≤2000000000000)∧(0≤(el l i).2.1∧(el l i).2.1≤2000000000000)∧(0≤(el l i).2.2.1∧(el l i).2.2.1≤2000000000000)∧∃ t:Nat,(el l i).2.2.2=(t:Int)∧t<K.length)(hk:∀ n ∈ K,0≤n∧n≤2000000000000):
  Calls Tryz.prog 147 #[.agg #[.int .i64 f,va],vk] w fun e w'=>e= .returned (.string ⟨(sgT (sgN K (f,l))).toArray⟩)∧Below w.heap.size w w':=by
 obtain⟨a,cap,rfl,hc⟩:=hA.get
 obtain⟨ak,ck,rfl,hkc⟩:=hK.get
 have HC:=hidP hc;have HKC:=hidP hkc;have HTB:=hidP ht;have HS:=hidP hs;have HNT:Hid (∀ k,k<l.length→sgT (f::(l.take (k+1)).flatMap (sgA K))=sgT (f::(l.take k).flatMap (sgA K))++sgT (sgA K (el l k))):=fun k hk=>by rw[sgA_take hk,← List.cons_append,sgT_app]
 have HN0:Hid (sgT (f::(l.take 0).flatMap (sgA K))=sgT [f]):=rfl;have HNE:Hid (sgT (f::(l.take l.length).flatMap (sgA K))=sgT (sgN K (f,l))):=by show _=_;rw[List.take_length];rfl
 have HNZ:Hid (sgT (sgN K (f,l))≠[]):=fun e=>by have h9:=congrArg List.length e;simp[sgN,sgT]at h9
 have HBN:Hid (∀ k,(sgT (f::(l.take k).flatMap (sgA K))).length≤100000):=fun k=>by
  have h1:=sgT_len (l:=f::(l.take k).flatMap (sgA K)) (fun n hn=>by
   rcases List.mem_cons.1 hn with rfl | hn
   ·omega
   ·obtain ⟨a,ha,hn⟩:=List.mem_flatMap.1 hn
    obtain⟨i,hi,rfl⟩:=jja1 (List.mem_of_mem_take ha)
    obtain⟨g1,g2,g3,t,g4,g5⟩:=hs i hi
    simp only[sgA,List.mem_cons,List.not_mem_nil,or_false]at hn
    rcases hn with rfl | rfl | rfl | rfl
    ·omega
    ·omega
    ·omega
    ·rw [g4,Int.toNat_natCast]
     have:=hk _ (jjac g5)
     omega)
  have h2:(f::(l.take k).flatMap (sgA K)).length≤1601:=by rw[List.length_cons,sgA_len,List.length_take];omega
  omega
 have HKB:Hid (∀ t,t<K.length→0≤el K t∧el K t≤2000000000000):=fun t ht=>hk _ (jjac ht)
 have hmf:∀ (fn:Fn) (first cap:Array Value) (w:World),(Instr.makeFunc fn first cap).run Tryz.prog w= .ok (.func fn first cap) w:=fun _ _ _ _=>rfl
 obtain⟨R,hR⟩:∃ R,sgT (sgN K (f,l))=R:=⟨_,rfl⟩
 rw[hR]at HNE HNZ ⊢;clear hR hA hK ht hc hkc hs hk;obtain⟨n,hn⟩:∃ n,l.length=n:=⟨_,rfl⟩
 rw[hn]at hl HC HS HNT HNE ⊢;clear hn;obtain⟨nk,hnk⟩:∃ nk,K.length=nk:=⟨_,rfl⟩
 rw[hnk]at HKC HS HKB ⊢;clear hnk;obtain⟨TX,hTX⟩:∃ TX:Nat→List UInt8,(fun k=>sgT (f::(l.take k).flatMap (sgA K)))=TX:=⟨_,rfl⟩
 have HNT:Hid (∀ k,k<n→TX (k+1)=TX k++sgT (sgA K (el l k))):=fun k hk=>by rw[← hTX];exact HNT.out k hk
 have HN0:Hid (TX 0=sgT [f]):=by show _=_;rw[← hTX];exact HN0.out
 have HNE:Hid (TX n=R):=by show _=_;rw[← hTX];exact HNE.out
 have HBN:Hid (∀ k,(TX k).length≤100000):=fun k=>by rw[← hTX];exact HBN.out k
 clear hTX;have hA0:=(Below.refl w.heap.size w).alloc (Nat.le_refl _) (.cells #[.int .i64 f,.slice a n cap] 45);have HB0:=hidP (Bld.made (w.alloc (.cells #[.int .i64 f,.slice a n cap] 45)));rw[World.size_alloc]at HB0;have HW0:=hidP (hA0.alloc hA0.size (.cells #[.pointer none,.slice none 0 0] 201))
 have HS0:=hidP ((Blk.made w #[.int .i64 f,.slice a n cap] 45).alloc (.cells #[.pointer none,.slice none 0 0] 201));clear hA0;go_enter Tryz.func147,Tryz.ntmps147;go_upto_region 3 with fail
 have hsz:((w.alloc (.cells #[.int .i64 f,.slice a n cap] 45)).alloc (.cells #[.pointer none,.slice none 0 0] 201)).heap.size=w.heap.size+2:=by simp
 generalize ((w.alloc (.cells #[.int .i64 f,.slice a n cap] 45)).alloc (.cells #[.pointer none,.slice none 0 0] 201))=w1 at *;have s0:=HS0.out.cell 0 (v:= .int .i64 f) rfl;have HB1:=hidP (HB0.out.later ((Below.refl w1.heap.size w1).alloc (Nat.le_refl _) (.cells #[.int .i64 f] 3)));have HW1:=hidP (HW0.out.alloc HW0.out.size (.cells #[.int .i64 f] 3))
 have HS1:=hidP (HS0.out.alloc (.cells #[.int .i64 f] 3));have HC1:=hidP (signW_any w (w1.alloc (.cells #[.int .i64 f] 3)) (w.heap.size+1) (w.heap.size+1) w1.heap.size [] [f] (Blk.made w1 #[.int .i64 f] 3) HB1.out HTB.out HW1.out (by omega) (fun n hn=>by rw[List.mem_singleton]at hn;rw[hn];exact hf) (by simp) (by simp) (by simp;omega) 1 1 rfl);have HSZ:=hidP hsz;clear HB0 HW0 HS0 hsz
 go_wp2_with (first
  | ((first | go_at_call 178 | go_at_fn 178);(with_reducible refine HC1.out.mono ?_);rintro e w2 ⟨rfl,hB2,hb2,ho2⟩;have B2:Hid (Bld (w.heap.size+1) (w.heap.size+1) (TX 0) w2):=(by(show Bld _ _ _ _);rw[HN0.out];simpa using hB2);have W2:=hidP (HW1.out.trans (hb2.mono (by have:=HSZ.out;omega)));have S2:=hidP (HS1.out.below hb2 (by have:=HSZ.out;omega));have s1:=S2.out.cell 1 (v:= .slice a n cap) rfl;have hz2:=hb2.size;clear hB2 hb2 ho2 HC1 HB1 HW1 HS1))
 have hz3:w.heap.size+2≤w2.heap.size:=by have h9:=HSZ.out;simp at hz2;omega
 clear hz2 HSZ s1;go_loopw [18] (fun i wr=>∃ k:Nat,k≤n∧i= .int .i64 k∧Hid (Bld (w.heap.size+1) (w.heap.size+1) (TX k) wr)∧Hid (Below w.heap.size w wr)∧w.heap.size+2≤wr.heap.size) (fun i _=>n-(intOf i).toNat)
 case atStart=>exact ⟨0,Nat.zero_le _,rfl,B2,W2,hz3⟩
 case round=>
  clear B2 W2 S2 hz3;obtain⟨k,hk,rfl,hB,hW,hz⟩:=hrel
  obtain⟨w3,hw3⟩:∃ w3,w3=wr:=⟨_,rfl⟩
  subst hw3;by_cases hlt:k<n
  ·have k0:(0:Int)≤(k:Int):=Int.natCast_nonneg _
   have k1:(k:Int)<(n:Int):=by omega
   obtain⟨b,off,hab,hbl,c0,c1,c2,c3⟩:=HC.out k hlt
   subst hab;have c0:=(hW.out.cell (p:=⟨b,off+k*4,none⟩) hbl).trans c0;have c1:=(hW.out.cell (p:=⟨b,off+k*4+1,none⟩) hbl).trans c1;have c2:=(hW.out.cell (p:=⟨b,off+k*4+2,none⟩) hbl).trans c2;have c3:=(hW.out.cell (p:=⟨b,off+k*4+3,none⟩) hbl).trans c3;obtain⟨g0,g1,g2,t,ht,htn⟩:=HS.out k hlt
   obtain⟨bk,ok,hak,hbkl,d0⟩:=HKC.out t htn
   subst hak;have d0:=(hW.out.cell (p:=⟨bk,ok+t,none⟩) hbkl).trans d0;have g4:=HKB.out t htn;have HTN:=hidP (HNT.out k hlt);have HL1:=HBN.out k;rw[ht]at c3;have HSA:Hid (sgA K (el l k)=[(el l k).1,(el l k).2.1,(el l k).2.2.1,el K t]):=by show _=_;unfold sgA;rw[ht,Int.toNat_natCast]
   obtain⟨pp,hpp⟩:∃ pp,el l k=pp:=⟨_,rfl⟩
   rw[hpp]at c0 c1 c2 g0 g1 g2 HTN HSA;clear hpp ht;obtain⟨x0,x1,x2,x3⟩:=pp
   simp only at c0 c1 c2 g0 g1 g2 HSA;rw[HSA.out]at HTN;clear HSA;obtain⟨y,hy⟩:∃ y,el K t=y:=⟨_,rfl⟩
   rw[hy]at d0 g4 HTN;clear hy;have t0:(0:Int)≤(t:Int):=Int.natCast_nonneg _;have t1:(t:Int)<(nk:Int):=by omega
   have hA4:=(Below.refl w3.heap.size w3).alloc (Nat.le_refl _) (.cells #[.int .i64 x0,.int .i64 x1,.int .i64 x2,.int .i64 (t:Int)] 56);have X4:=hidP (Blk.made w3 #[.int .i64 x0,.int .i64 x1,.int .i64 x2,.int .i64 (t:Int)] 56);have B4:=hidP (hB.out.later hA4);have W4:=hidP (hW.out.trans (hA4.mono hW.out.size));have D4:=hidP ((hA4.cell (p:=⟨bk,ok+t,none⟩) (World.block_lt_of_cell? _ _ d0)).trans d0)
   have hz4:w.heap.size+2≤(w3.alloc (.cells #[.int .i64 x0,.int .i64 x1,.int .i64 x2,.int .i64 (t:Int)] 56)).heap.size:=by simp;omega
   clear hA4 hB hW;go_upto_region 7 with fail
   clear c0 c1 c2 c3 d0;generalize w3.alloc (.cells #[.int .i64 x0,.int .i64 x1,.int .i64 x2,.int .i64 (t:Int)] 56)=w4 at *;obtain⟨Ab,hAb⟩:∃ Ab,Ab=w3.heap.size:=⟨_,rfl⟩
   rw[← hAb]at X4 ⊢;clear hAb;have hDr:=(Below.refl w4.heap.size w4).drew;have HHz:HeldRl Ab x0 x1 x2 (t:Int) bk (ok+t) y w4:=⟨X4.out.cell 0 rfl,X4.out.cell 1 rfl,X4.out.cell 2 rfl,X4.out.cell 3 rfl,D4.out⟩
   have HH:HeldRl Ab x0 x1 x2 (t:Int) bk (ok+t) y w4.drew:=HHz.later hDr;have hA5:=((Below.refl w4.heap.size w4).alloc (Nat.le_refl _) (.cells #[.int .i64 x0,.int .i64 x1,.int .i64 x2,.int .i64 y] 3)).drew
   have HC5:=hidP (signW_any w (w4.alloc (.cells #[.int .i64 x0,.int .i64 x1,.int .i64 x2,.int .i64 y] 3)).drew (w.heap.size+1) (w.heap.size+1) w4.heap.size (TX k) [x0,x1,x2,y] (show Blk (w4.alloc (.cells #[.int .i64 x0,.int .i64 x1,.int .i64 x2,.int .i64 y] 3)).drew w4.heap.size ([x0,x1,x2,y].map (Value.int .i64)).toArray 3 from Blk.made w4 #[.int .i64 x0,.int .i64 x1,.int .i64 x2,.int .i64 y] 3) (B4.out.later hA5) HTB.out (W4.out.trans (hA5.mono W4.out.size)) (by omega) (fun n hn=>by
    simp only[List.mem_cons,List.not_mem_nil,or_false]at hn
    rcases hn with rfl | rfl | rfl | rfl
    ·exact g0
    ·exact g1
    ·exact g2
    ·exact g4) (by simp) (by omega) (Nat.le_trans (by omega) hA5.size) 4 4 rfl)
   have W5:=hidP (W4.out.trans (hA5.mono W4.out.size));have HH5:HeldRl Ab x0 x1 x2 (t:Int) bk (ok+t) y (w4.alloc (.cells #[.int .i64 x0,.int .i64 x1,.int .i64 x2,.int .i64 y] 3)).drew:=HHz.later hA5;have hz5:=hA5.size;have X5:=hidP (X4.out.below hA5 X4.out.lt);have D5:=hidP (((hA5).cell (p:=⟨bk,ok+t,none⟩) (World.block_lt_of_cell? _ _ D4.out)).trans D4.out);clear hA5;clear D5 X4 D4 B4 HHz
   refine jjaf (HeldRl Ab x0 x1 x2 (t:Int) bk (ok+t) y) 1000 (by kernel_rfl) ?_
   refine jjaa (v:=?v0_1) aZ0 ?y0_1 HH ?r0_1
   case y0_1=>intro wx hx;obtain⟨h0,h1,h2,h3,h4⟩:=hx;go_simp;try (with_reducible rfl)
   simp only[Act.put,sA,sB,sC];refine jjaa (v:=?v1_2) aZ1 ?y1_2 HH ?r1_2
   case y1_2=>intro wx hx;obtain⟨h0,h1,h2,h3,h4⟩:=hx;go_simp;try (with_reducible rfl)
   simp only[Act.put,sA,sB,sC];refine jjaa (v:=?v2_3) aZ2 ?y2_3 HH ?r2_3
   case y2_3=>intro wx hx;obtain⟨h0,h1,h2,h3,h4⟩:=hx;go_simp;try (with_reducible rfl)
   simp only[Act.put,sA,sB,sC];refine jjaa (v:=?v3_4) aZ3 ?y3_4 HH ?r3_4
   case y3_4=>intro wx hx;obtain⟨h0,h1,h2,h3,h4⟩:=hx;go_simp;try (with_reducible rfl)
   simp only[Act.put,sA,sB,sC];refine jjaa (v:=?v4_5) aZ4 ?y4_5 HH ?r4_5
   case y4_5=>intro wx hx;obtain⟨h0,h1,h2,h3,h4⟩:=hx;go_simp;try (with_reducible rfl)
   simp only[Act.put,sA,sB,sC];refine jjaa (v:=?v5_6) aZ5 ?y5_6 HH ?r5_6
   case y5_6=>intro wx hx;obtain⟨h0,h1,h2,h3,h4⟩:=hx;go_simp;try (with_reducible rfl)
   simp only[Act.put,sA,sB,sC];refine jjaa (v:=?v6_7) aZ6 ?y6_7 HH ?r6_7
   case y6_7=>intro wx hx;obtain⟨h0,h1,h2,h3,h4⟩:=hx;go_simp;try (with_reducible rfl)
   simp only[Act.put,sA,sB,sC];refine jjaa (v:=?v7_8) aZ7 ?y7_8 HH ?r7_8
   case y7_8=>intro wx hx;obtain⟨h0,h1,h2,h3,h4⟩:=hx;go_simp;try (with_reducible rfl)
   simp only[Act.put,sA,sB,sC];refine jjaa (v:=?v8_9) aZ8 ?y8_9 HH ?r8_9
   case y8_9=>intro wx hx;obtain⟨h0,h1,h2,h3,h4⟩:=hx;go_simp;try (with_reducible rfl)
   simp only[Act.put,sA,sB,sC];refine jjaa (v:=?v9_10) aZ9 ?y9_10 HH ?r9_10
   case y9_10=>intro wx hx;obtain⟨h0,h1,h2,h3,h4⟩:=hx;go_simp;try (with_reducible rfl)
   simp only[Act.put,sA,sB,sC];refine jjaa (v:=?v10_11) aZ10 ?y10_11 HH ?r10_11
   case y10_11=>intro wx hx;obtain⟨h0,h1,h2,h3,h4⟩:=hx;go_simp;try (with_reducible rfl)
   simp only[Act.put,sA,sB,sC];refine jjaa (v:=?v11_12) aZ11 ?y11_12 HH ?r11_12
   case y11_12=>intro wx hx;obtain⟨h0,h1,h2,h3,h4⟩:=hx;go_simp;try (with_reducible rfl)
   simp only[Act.put,sA,sB,sC];refine jjab aZ12 (fun K hK=>?_)
   go_simp;refine hK _ _ (.inr HH5) ?_
   try simp only[Act.put,sA,sB,sC]
   refine jjab aZ13 (fun K hK=>?_)
   go_simp;with_reducible refine HC5.out.mono ?_
   rintro e w6 ⟨rfl,hB6,hb6,ho6⟩
   have X6:=ho6.blk X5.out (by decide) (by decide);have HH6:HeldRl Ab x0 x1 x2 (t:Int) bk (ok+t) y w6:=⟨X6.cell 0 rfl,X6.cell 1 rfl,X6.cell 2 rfl,X6.cell 3 rfl,(hb6.cell (p:=⟨bk,ok+t,none⟩) (by show bk<w.heap.size+1;omega)).trans HH5.h4⟩
   have B6:=hidP hB6;have W6:=hidP (W5.out.trans (hb6.mono (by omega)));have hz6:w.heap.size+2≤w6.heap.size:=Nat.le_trans hz4 (Nat.le_trans hz5 hb6.size);clear hB6 hb6 ho6 HC5 X6 X5;refine hK _ _ (.inr HH6) (jjad (by kernel_rfl) (NoPanic.normal ?_))
   try simp only[Act.put,sA,sB,sC]
   clear HH HH5 HH6;go_wp2;go_roundw
   case rel=>exact ⟨k+1,by omega,by go_num,by rw[HTN.out];exact B6,W6,hz6⟩
   case measure=>simp [intOf];omega
  ·have hk1:¬ (k:Int)<(n:Int):=by omega
   obtain rfl:k=n:=by omega
   rw[HNE.out]at hB;go_wp2_with (first
    | (go_at_call 171;(with_reducible refine(string_any _ _ _ _ hB.out HNZ.out).mono ?_);rintro e w4 ⟨rfl,hb4⟩;have W4:=hidP (hW.out.trans (hb4.mono (by omega)));clear hb4))
   go_ret;exact⟨rfl,W4.out⟩
open Maps
theorem TxM.len {w:World}{m:Nat}{ks:List (List UInt8)}(h:TxM w m ks)(ty:TypeId):(Builtin.len_ #[86] ty #[.map (some m)]).run Tryz.prog w= .ok (.int .i64 (ks.length:Int)) w:=by
 obtain⟨D,h1,h2,_⟩:=h
 rw[World.ownsMap.len h1 Tryz.underlying86 ty,h2]
theorem TxM.laterL {w w':World}{m:Nat}{ks:List (List UInt8)}(h:TxM w m ks)(hb:Below w.heap.size w w'):TxM w' m ks:=h.keep (hb.block m h.lt)
theorem low_of {z:Int}{l:List St}(hr:faultM (z,l)=0){q:Nat}(hq:q<l.length):(0≤(el l q).1∧(el l q).1≤2000000000000)∧(el l q).2.length≤400∧∀ i,i<(el l q).2.length→(0≤(el (el l q).2 i).1∧(el (el l q).2 i).1≤2000000000000)∧(0≤(el (el l q).2 i).2.1∧(el (el l q).2 i).2.1≤2000000000000)∧(0≤(el (el l q).2 i).2.2.1∧(el (el l q).2 i).2.2.1≤2000000000000)∧∃ t:Nat,(el (el l q).2 i).2.2.2=(t:Int)∧t<l.length:=by
 have h1:=jja7 (m:=(z,l)) hr q hq;have h3:=(jjag hr).2 (el l q) (jjac hq);simp only[stB,Bool.and_eq_true,List.all_eq_true]at h3;refine⟨?_,h1.2.1,fun i hi=>?_⟩
 ·have h4:finB (el l q).1=true:=h3.1
  simp[finB,inB]at h4;omega
 ·obtain ⟨r1,r2,r4,r5,r6,r7,r8⟩:=jjbi (m:=(z,l)) hr hq (jjac hi)
  exact⟨⟨r1,Int.le_trans r2 (by decide)⟩,⟨r4,Int.le_trans r5 (by decide)⟩,⟨r6,Int.le_trans r7 (by decide)⟩,r8⟩
theorem toldApart_any (z:Int)(l:List St)(a:Option Addr)(cap:Nat)(vk:Value)(K:List Int)(w:World)(h:Mach w (.agg #[.int .i64 z,.slice a l.length cap]) (z,l))(hr:faultM (z,l)=0)(hK:Nums w vk K)(hKl:K.length=l.length)(hKb:∀ n ∈ K,0≤n∧n≤1000)(ht:Tab w):
  Calls Tryz.prog 118 #[.agg #[.int .i64 z,.slice a l.length cap],vk] w fun e w'=>∃ (g:Nat) (F:List Int) (n:Nat),e= .returned (.tuple #[.slice (some ⟨g,0,none⟩) l.length l.length,.int .i64 (n:Int)])∧Nxt l K F n∧Blk w' g (F.map (Value.int .i64)).toArray 3∧w.heap.size≤g∧Below w.heap.size w w':=by
 obtain⟨vs',hvs,hS⟩:=h
 simp only[Value.agg.injEq,Array.mk.injEq,List.cons.injEq,and_true,true_and]at hvs;subst hvs;obtain⟨a',cap',hsl,hc⟩:=hS.get
 simp only[Value.slice.injEq,true_and]at hsl;obtain⟨rfl,rfl⟩:=hsl
 have h60:l.length≤60:=(jjae hr).1;have HC:Hid (∀ j,j<l.length→∃ b off va,a=some ⟨b,off,none⟩∧b<w.heap.size∧w.cell? ⟨b,off+j*2,none⟩=some (.int .i64 (el l j).1)∧w.cell? ⟨b,off+j*2+1,none⟩=some va∧Arcs w va (el l j).2):=hc;have HLO:=hidP (fun q (hq:q<l.length)=>low_of hr hq);have HSG:Hid (∀ q,q<l.length→∀ n ∈ sgN K (el l q),0≤n∧n≤2000000000000):=fun q hq n hn=>by
  obtain⟨h1,h2,h3⟩:=low_of hr hq
  rcases List.mem_cons.1 hn with rfl | hn
  ·exact h1
  ·obtain ⟨x,hx,hn⟩:=List.mem_flatMap.1 hn
   obtain⟨i,hi,rfl⟩:=jja1 hx
   obtain⟨g1,g2,g3,t,g4,g5⟩:=h3 i hi
   simp only[sgA,List.mem_cons,List.not_mem_nil,or_false]at hn;rcases hn with rfl | rfl | rfl | rfl
   ·exact g1
   ·exact g2
   ·exact g3
   ·rw [g4,Int.toNat_natCast]
    have:=hKb _ (jjac (show t<K.length by omega));omega
 have HSL:Hid (∀ q,q<l.length→(sgT (sgN K (el l q))).length≤1000000):=fun q hq=>by
  have h1:=sgT_len (l:=sgN K (el l q)) (fun n hn=>by have:=HSG.out q hq n hn;omega);have h2:(sgN K (el l q)).length≤1601:=by unfold sgN;rw[List.length_cons,sgA_len];have:=(low_of hr hq).2.1;omega
  omega
 have HDN:Hid (∀ ks F,KndI l K l.length ks F→Nxt l K F ks.length):=fun ks F hI=>hI.done (fun q hq n hn=>(HSG.out q hq n hn).1)
 have HI0:Hid (KndI l K 0 [] (List.replicate l.length 0)):=KndI.init;have HK:=hidP hK;have HKL:=hidP hKl;have HKB:Hid (∀ n ∈ K,0≤n∧n≤2000000000000):=fun n hn=>by have:=hKb n hn;omega
 have HTB:=hidP ht;obtain⟨ak,ck,hvk,_⟩:=hK.get
 subst hvk;clear hS hc hr hK hKl hKb ht;generalize hn:l.length=n at *;have HN:=hidP hn;clear hn;generalize hnk:K.length=nk at *;have HNK:=hidP hnk;clear hnk;have hmk:=jjdd n (by omega);have hmm:∀ W:World,(Instr.makeMap 86 none).run Tryz.prog W= .ok (.map (some W.heap.size)) (W.alloc (.map #[] 0)):=fun W=>by simp[Instr.makeMap,run_underlying Tryz.underlying86]
 have hnot:∀ (x:Bool) (w:World),(Op.unary .not (.bool x)).run Tryz.prog w= .ok (.bool (!x)) w:=fun _ _=>rfl
 have hA1:=(Below.refl w.heap.size w).alloc (Nat.le_refl _) (.cells #[.int .i64 z,.slice a n cap] 24);have T1:=TxM.made (w.alloc (.cells #[.int .i64 z,.slice a n cap] 24));rw[World.size_alloc]at T1;have hA2:=hA1.alloc hA1.size (.map #[] 0);have hA3:=hA2.alloc hA2.size (.cells (Array.replicate n (Value.int .i64 0)) 3)
 have G3:=Blk.made ((w.alloc (.cells #[.int .i64 z,.slice a n cap] 24)).alloc (.map #[] 0)) (Array.replicate n (Value.int .i64 0)) 3;have T3:=hidP (T1.laterL ((Below.refl _ _).alloc (Nat.le_refl _) (.cells (Array.replicate n (Value.int .i64 0)) 3)));rw[World.size_alloc,World.size_alloc]at G3;have G3':=hidP G3;have W3:=hidP hA3
 rw[show Array.replicate n (Value.int .i64 0)=((List.replicate n (0:Int)).map (Value.int .i64)).toArray from by simp]at G3';clear hA1 hA2 hA3 T1 G3;go_enter Tryz.func118,Tryz.ntmps118;go_wp2;obtain⟨g,hg⟩:∃ g,g=w.heap.size+1+1:=⟨_,rfl⟩
 rw[← hg]at G3' ⊢;have hgw:w.heap.size≤g:=by omega
 obtain⟨mb,hmb⟩:∃ mb,mb=w.heap.size+1:=⟨_,rfl⟩
 rw[← hmb]at T3 ⊢;have hmw:w.heap.size≤mb:=by omega
 clear hg hmb;go_loopw [21] (fun i wr=>∃ (q:Nat) (ks:List (List UInt8)) (F:List Int),q≤n∧i= .int .i64 q∧Hid (KndI l K q ks F)∧Hid (TxM wr mb ks)∧Hid (Blk wr g (F.map (Value.int .i64)).toArray 3)∧Hid (Below w.heap.size w wr)) (fun i _=>n-(intOf i).toNat)
 case atStart=>exact ⟨0,[],List.replicate n 0,Nat.zero_le _,rfl,HI0,T3,by (show Blk _ _ _ _);simpa using G3'.out,W3⟩
 case round=>
  clear HI0 T3 G3' W3;obtain⟨q,ks,F,hq,rfl,hI,hT,hG,hW⟩:=hrel
  obtain⟨w5,hw5⟩:∃ w5,w5=wr:=⟨_,rfl⟩
  subst hw5;by_cases hlt:q<n
  ·have q0:(0:Int)≤(q:Int):=Int.natCast_nonneg _
   have q1:(q:Int)<(n:Int):=by omega
   obtain⟨b,off,va,hab,hbl,c0,c1,cA⟩:=HC.out q hlt
   subst hab;have c0:=(hW.out.cell (p:=⟨b,off+q*2,none⟩) hbl).trans c0;have c1:=(hW.out.cell (p:=⟨b,off+q*2+1,none⟩) hbl).trans c1;obtain⟨lf,ll,ls⟩:=HLO.out q hlt
   have hFl:F.length=n:=by rw[hI.out.len,HN.out]
   have hkf:ks.length≤q:=hI.out.few;have HOLD:=hidP (fun j hj e=>hI.out.old (by rw[HN.out];exact hlt) (j:=j) hj e);have HNEW:=hidP (hI.out.new (by rw[HN.out];exact hlt));have hsl:=HSL.out q hlt;have hND:=hI.out.nodup;obtain⟨s,hs⟩:∃ s,el l q=s:=⟨_,rfl⟩
   rw[hs]at c0 cA lf ll ls HOLD HNEW hsl;clear hs;obtain⟨f,ar⟩:=s
   simp only at c0 cA lf ll ls;obtain⟨aa,ca,hva,hca⟩:=cA.get
   have CA:=hidP cA;subst hva;clear hca cA;have hA6:=(Below.refl w5.heap.size w5).alloc (Nat.le_refl _) (.cells #[.int .i64 f,.slice aa ar.length ca] 45);have W6:=hW.out.trans (hA6.mono hW.out.size)
   have HSN:=hidP (signOf_any f (.slice aa ar.length ca) (.slice ak nk ck) ar K (w5.alloc (.cells #[.int .i64 f,.slice aa ar.length ca] 45)) (CA.out.later W6 (Nat.le_refl _)) (HK.out.later W6 (Nat.le_refl _)) (HTB.out.later W6) ll lf (fun i hi=>by
    obtain⟨x1,x2,x3,t,x4,x5⟩:=ls i hi
    exact⟨x1,x2,x3,t,x4,by rw[HNK.out,HKL.out];exact x5⟩) HKB.out)
   have HW6:=hidP W6;have T6:=hidP (hT.out.laterL hA6);have G6:=hidP (hG.out.below hA6 hG.out.lt);clear hA6 W6 lf ll ls CA hW hT hG;obtain⟨tx,htx⟩:∃ tx,sgT (sgN K (f,ar))=tx:=⟨_,rfl⟩
   rw[htx]at HOLD HNEW hsl HSN;clear htx;obtain⟨nA,hnA⟩:∃ nA,ar.length=nA:=⟨_,rfl⟩
   rw[hnA]at c1 HSN T6 G6 HW6;clear hnA;by_cases hmem:tx ∈ ks
   ·obtain ⟨j,hj,hje⟩:=jja1 hmem
    have HI6:=hidP (HOLD.out j hj hje);have HLK:=hidP (fun W' (hT':TxM W' mb ks)=>hT'.look_old hsl hND hj hje);obtain⟨ts,hts⟩:∃ ts:ByteArray,⟨tx.toArray⟩=ts:=⟨_,rfl⟩
    rw[hts]at HLK HSN;clear hmem hje hND hts HOLD HNEW hkf;go_wp2_with (first
     | (go_at_call 147;(with_reducible refine HSN.out.mono ?_);rintro e w7 ⟨rfl,hb7⟩;have T7:=hidP (T6.out.laterL hb7);have hlk:=HLK.out w7 T7.out;have G7:=hidP (G6.out.below hb7 G6.out.lt);have W7:=hidP (HW6.out.trans (hb7.mono HW6.out.size));have e0:=jjba G7.out (j:=q) (by rw[hFl];exact hlt);have f0:=G7.out.fz q;clear hb7 HSN HLK G6 T6 HW6))
    have G8:=hidP (G7.out.set q (.int .i64 (j:Int)));rw[jjcc]at G8;have T8:=hidP (T7.out.keep (Below.heap_setCell w7 ⟨g,q,none⟩ (.int .i64 (j:Int)) mb (T7.out.neBlk G7.out)));have W8:=hidP (W7.out.setCell (p:=⟨g,q,none⟩) hgw (.int .i64 (j:Int)));go_roundw
    case rel=>exact ⟨q+1,ks,_,by omega,by go_num,HI6,T8,G8,W8⟩
    case measure=>simp [intOf];omega
   ·have HI6:=hidP (HNEW.out hmem)
    have HLK:=hidP (fun W' (hT':TxM W' mb ks)=>hT'.look_new hsl hmem);have HUP:=hidP (fun W' (hT':TxM W' mb ks)=>hT'.put hsl hmem (by omega));have HLE:=hidP (fun W' (hT':TxM W' mb ks)=>hT'.len);obtain⟨ts,hts⟩:∃ ts:ByteArray,⟨tx.toArray⟩=ts:=⟨_,rfl⟩
    rw[hts]at HLK HSN HUP;obtain⟨nK,hnK⟩:∃ nK,ks.length=nK:=⟨_,rfl⟩
    rw[hnK]at HUP HLE HI6;clear hmem hND hts HOLD HNEW hnK hkf;go_wp2_with (first
     | (go_at_call 147;(with_reducible refine HSN.out.mono ?_);rintro e w7 ⟨rfl,hb7⟩;have T7:=hidP (T6.out.laterL hb7);have hlk:=HLK.out w7 T7.out;have hle:=HLE.out w7 T7.out;have G7:=hidP (G6.out.below hb7 G6.out.lt);have W7:=hidP (HW6.out.trans (hb7.mono HW6.out.size));obtain⟨w8,hup,hT8,hg8⟩:=HUP.out w7 T7.out;have T8:=hidP hT8;have G8:=hidP (G7.out.grown hg8 (fun e=>T7.out.neBlk G7.out (by injection e with e;exact e.symm)));have W8:=hidP (W7.out.grown hg8 W7.out.size (fun k hk=>by cases hk;exact hmw));have e0:=jjba G8.out (j:=q) (by rw[hFl];exact hlt);have f0:=G8.out.fz q;clear hb7 HSN HLK G6 T6 HW6 hT8 hg8 HUP HLE))
    have G9:=hidP (G8.out.set q (.int .i64 (nK:Int)));rw[jjcc]at G9;have T9:=hidP (T8.out.keep (Below.heap_setCell w8 ⟨g,q,none⟩ (.int .i64 (nK:Int)) mb (T8.out.neBlk G8.out)));have W9:=hidP (W8.out.setCell (p:=⟨g,q,none⟩) hgw (.int .i64 (nK:Int)));go_roundw
    case rel=>exact ⟨q+1,_,_,by omega,by go_num,HI6,T9,G9,W9⟩
    case measure=>simp [intOf];omega
  ·have hk1:¬ (q:Int)<(n:Int):=by omega
   obtain rfl:q=n:=by omega
   have HX:=hidP (HDN.out ks F hI.out);have hle:=hT.out.len;obtain⟨nK,hnK⟩:∃ nK,ks.length=nK:=⟨_,rfl⟩
   rw[hnK]at hle HX;clear hnK;go_wp2;go_ret2;first | exact⟨g,F,nK,rfl,HX.out,hG.out,hgw,hW.out⟩ | exact⟨g,nK,rfl,F,HX.out,hG.out,hgw,hW.out⟩ | exact⟨nK,rfl,⟨F,HX.out,hG.out,hgw,hW.out⟩⟩
structure KndF (l:List St)(K:List Int):Prop where
 len:K.length=l.length
 rng:∀ q,q<l.length→∃ j:Nat,el K q=(j:Int)∧j<l.length
 iff:∀ q p,q<l.length→p<l.length→(el K q=el K p↔Alk l q p)
theorem kindsOf_any (z:Int)(l:List St)(a:Option Addr)(cap:Nat)(w:World)(h:Mach w (.agg #[.int .i64 z,.slice a l.length cap]) (z,l))(hr:faultM (z,l)=0)(h0:0<l.length)(ht:Tab w):
  Calls Tryz.prog 55 #[.agg #[.int .i64 z,.slice a l.length cap]] w fun e w'=>∃ (g:Nat) (K:List Int),e= .returned (.slice (some ⟨g,0,none⟩) l.length l.length)∧KndF l K∧Blk w' g (K.map (Value.int .i64)).toArray 3∧w.heap.size≤g∧Below w.heap.size w w':=by
 have h60:l.length≤60:=(jjae hr).1;have HM:=hidP h;have HTB:=hidP ht
 have HCA:Hid (∀ W g K nn,Below w.heap.size w W→Knd l K nn→Blk W g (K.map (Value.int .i64)).toArray 3→Calls Tryz.prog 118 #[.agg #[.int .i64 z,.slice a l.length cap],.slice (some ⟨g,0,none⟩) l.length l.length] W fun e w'=>∃ (g:Nat) (F:List Int) (n:Nat),e= .returned (.tuple #[.slice (some ⟨g,0,none⟩) l.length l.length,.int .i64 (n:Int)])∧Nxt l K F n∧Blk w' g (F.map (Value.int .i64)).toArray 3∧W.heap.size≤g∧Below W.heap.size W w'):=fun W g K nn hW hK hB=>by
  have hn:=jjef (cap:=l.length) hB;rw[hK.len]at hn;exact toldApart_any z l a cap _ K W (h.later hW (Nat.le_refl _)) hr hn hK.len (fun x hx=>by
   obtain⟨q,hq,rfl⟩:=jja1 hx
   rw[hK.len]at hq
   obtain⟨j,hj,hjn⟩:=hK.rng q hq
   have:=hK.few
   rw[hj]
   omega) (ht.later hW)
 have HMO:Hid (∀ K F nn k,Knd l K nn→Nxt l K F k→nn≤k∧k≤l.length∧Knd l F k):=fun K F nn k h1 h2=>⟨(h2.more h1).1,(h2.knd (to_of hr) h1).few,h2.knd (to_of hr) h1⟩
 have HEN:Hid (∀ K F nn,Knd l K nn→Nxt l K F nn→KndF l K):=fun K F nn h1 h2=>⟨h1.len,fun q hq=>by
  obtain⟨j,hj,hjn⟩:=h1.rng q hq
  have:=h1.few
  exact⟨j,hj,by omega⟩,h2.stop (to_of hr) h1⟩
 have HI0:=hidP (knd_start h0);clear h hr ht;generalize hn:l.length=n at *;clear hn;have hmk:=jjdd n (by omega);have hA1:=(Below.refl w.heap.size w).alloc (Nat.le_refl _) (.cells #[.int .i64 z,.slice a n cap] 24);have W2:=hidP (hA1.alloc hA1.size (.cells (Array.replicate n (Value.int .i64 0)) 3))
 have G2:=Blk.made (w.alloc (.cells #[.int .i64 z,.slice a n cap] 24)) (Array.replicate n (Value.int .i64 0)) 3;rw[World.size_alloc]at G2;have G2':Hid (Blk ((w.alloc (.cells #[.int .i64 z,.slice a n cap] 24)).alloc (.cells (Array.replicate n (Value.int .i64 0)) 3)) (w.heap.size+1) ((List.replicate n (0:Int)).map (Value.int .i64)).toArray 3):=by
  (show Blk _ _ _ _)
  simpa using G2
 have K2:=hidP ((Blk.made w #[.int .i64 z,.slice a n cap] 24).alloc (.cells (Array.replicate n (Value.int .i64 0)) 3));clear hA1 G2;go_enter Tryz.func55,Tryz.ntmps55;go_wp2
 go_loopw [3,4] (fun s3 s4 wr=>∃ (g:Nat) (K:List Int) (nn:Nat),s3= .slice (some ⟨g,0,none⟩) n n∧s4= .int .i64 (nn:Int)∧nn≤n∧w.heap.size≤g∧Hid (Knd l K nn)∧Hid (Blk wr g (K.map (Value.int .i64)).toArray 3)∧Hid (Blk wr w.heap.size #[.int .i64 z,.slice a n cap] 24)∧Hid (Below w.heap.size w wr)) (fun _ s4 _=>n-(intOf s4).toNat)
 case atStart=>exact ⟨w.heap.size+1,List.replicate n 0,1,rfl,rfl,by omega,by omega,HI0,G2',K2,W2⟩
 case round=>
  clear HI0 G2' K2 W2;obtain⟨g,K,nn,rfl,rfl,hnn,hgw,hK,hG,hMb,hW⟩:=hrel
  obtain⟨w3,hw3⟩:∃ w3,w3=wr:=⟨_,rfl⟩
  subst hw3;have HC:=hidP (HCA.out w3 g K nn hW.out hK.out hG.out);have m0:=hMb.out.cell 0 (v:= .int .i64 z) rfl;have m1:=hMb.out.cell 1 (v:= .slice a n cap) rfl;go_upto_region 3 with(first
   | (go_at_call 118;(with_reducible refine HC.out.mono ?_);rintro e w4 ⟨g4,F,k,rfl,hx4,hg4,hge4,hb4⟩;have X4:=hidP hx4;have G4:=hidP hg4;have G0:=hidP (hG.out.below hb4 hG.out.lt);have M4:=hidP (hMb.out.below hb4 hMb.out.lt);have W4:=hidP (hW.out.trans (hb4.mono hW.out.size));have hgw4:=Nat.le_trans hW.out.size hge4;clear hx4 hg4 hge4 hb4 HC hG hMb))
  clear m0 m1;obtain⟨hk1,hk2,hk3⟩:=HMO.out K F nn k hK.out X4.out
  by_cases hkn:k=nn
  ·subst hkn
   have HF:=hidP (HEN.out K F k hK.out X4.out);clear hk3;go_wp2;go_ret;first | exact⟨g,K,rfl,HF.out,G0.out,hgw,W4.out⟩ | exact⟨g,rfl,K,HF.out,G0.out,hgw,W4.out⟩
  ·have hne:((k:Int)==(nn:Int))=false:=by simp;omega
   have HK3:=hidP hk3;have hlt:nn<k:=by omega
   clear hk3;go_wp2;go_roundw
   case rel=>exact ⟨g4,F,k,rfl,rfl,hk2,hgw4,HK3,G4,M4,W4⟩
   case measure=>simp [intOf];omega
end Go.Proofs.YtppkiejhhmahcaaGreatDoor.Wt
