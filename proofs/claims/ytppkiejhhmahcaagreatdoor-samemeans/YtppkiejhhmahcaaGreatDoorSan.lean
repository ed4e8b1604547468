/- Facts, joined. -/
import Derived.Test.YtppkiejhhmahcaaGreatDoorSam
set_option linter.unusedSimpArgs false
set_option linter.unusedVariables false
set_option maxHeartbeats 3200000
set_option maxRecDepth 100000
namespace Go.Proofs.YtppkiejhhmahcaaGreatDoor.Wt
open ChangeShapes WideShapes ChangeAt RowKit Maps Pl
def HeldE3 (b:Nat)(va vm:Value)(k:Nat)(x y z:Int)(w:World):Prop:=w.cell? ⟨b,0,none⟩=some va∧w.cell? ⟨b,1,none⟩=some vm∧w.cell? ⟨k,0,none⟩=some (.int .i64 x)∧w.cell? ⟨k,1,none⟩=some (.int .i64 y)∧w.cell? ⟨k,2,none⟩=some (.int .i64 z)
def HeldE5 (b:Nat)(va vm:Value)(k:Nat)(x y z:Int)(mb:Nat)(o:Option Obj)(w:World):Prop:=HeldE3 b va vm k x y z w∧w.heap[mb]? =o
def HeldE2 (b:Nat)(va:Value)(k:Nat)(x y z t:Int)(w:World):Prop:=w.cell? ⟨b,0,none⟩=some va∧w.cell? ⟨k,0,none⟩=some (.int .i64 x)∧w.cell? ⟨k,1,none⟩=some (.int .i64 y)∧w.cell? ⟨k,2,none⟩=some (.int .i64 z)∧w.cell? ⟨k,3,none⟩=some (.int .i64 t)
def HeldOk (b:Nat)(va:Value)(g j:Nat)(x:Int)(k:Nat)(y:Int)(w:World):Prop:=w.cell? ⟨b,0,none⟩=some va∧w.cell? ⟨g,j*4+2,none⟩=some (.int .i64 x)∧w.cell? ⟨k,2,none⟩=some (.int .i64 y)
theorem ky3_mem {L:List Ar}{a:Ar}:ky3 a ∉ L.map ky3↔∀ x ∈ L,alikeB x a=false:=by
 simp only[List.mem_map,not_exists,not_and];constructor
 ·intro h x hx
  rcases jjam (alikeB x a)with g | g
  ·rw [alike_iff]at g
   exact absurd (by simp only[ky3,Prod.mk.injEq];omega) (h x hx)
  ·exact g
 ·intro h x hx e
  simp only[ky3,Prod.mk.injEq]at e;have:alikeB x a=true:=alike_iff.2 (by omega);rw[h x hx]at this;cases this
theorem ky3_set {L:List Ar}{i:Nat}(hi:i<L.length)(y:Int):(L.set i ((el L i).1,(el L i).2.1,y,(el L i).2.2.2)).map ky3=L.map ky3:=by
 rw[List.map_set];have:ky3 ((el L i).1,(el L i).2.1,y,(el L i).2.2.2)=(L.map ky3)[i]'(by simpa using hi):=by simp[ky3,jjaj hi]
 rw[this,List.set_getElem_self]
theorem addL_any (base b:Nat)(L:List Ar)(a0 a1 a2 a3:Int)(W:World)(h:LigM W base b L)(hp:ApaL L)(hl:L.length<100000)(hs:Sm3 (ky3 (a0,a1,a2,a3))):
  Calls Tryz.prog 94 #[.pointer (some ⟨b,0,none⟩),.agg #[.int .i64 a0,.int .i64 a1,.int .i64 a2,.int .i64 a3]] W fun e W'=>e= .returned (.tuple #[])∧LigM W' base b (laddL L (a0,a1,a2,a3))∧Below base W W':=by
 have hbW:=h.lt;obtain⟨va,mb,hB,hO,hM,hbb,hbm⟩:=h
 have bl:=hB.lt;have ml:=hM.lt;have HB2:Below W.heap.size W ((W.alloc (.cells #[.int .i64 a0,.int .i64 a1,.int .i64 a2,.int .i64 a3] 56)).alloc (.cells #[.int .i64 a0,.int .i64 a1,.int .i64 a3] 164)):=((Below.refl _ _).alloc (Nat.le_refl _) _).alloc (by simp) _
 have kx:=(Blk.made W #[.int .i64 a0,.int .i64 a1,.int .i64 a2,.int .i64 a3] 56).alloc (.cells #[.int .i64 a0,.int .i64 a1,.int .i64 a3] 164);have ky:=Blk.made (W.alloc (.cells #[.int .i64 a0,.int .i64 a1,.int .i64 a2,.int .i64 a3] 56)) #[.int .i64 a0,.int .i64 a1,.int .i64 a3] 164;rw[World.size_alloc]at ky
 obtain⟨W2,hW2⟩:∃ W2,W2=(W.alloc (.cells #[.int .i64 a0,.int .i64 a1,.int .i64 a2,.int .i64 a3] 56)).alloc (.cells #[.int .i64 a0,.int .i64 a1,.int .i64 a3] 164):=⟨_,rfl⟩
 have hsz:W2.heap.size=W.heap.size+2:=by rw[hW2];simp
 rw[← hW2]at HB2 kx ky;have hB2:=hB.below HB2 bl;have hO2:=hO.later HB2;have hM2:=hM.keep (HB2.block _ ml);have HW2:=hidP hW2;clear hW2;have c0:=hB2.cell 0 (v:=va) rfl;have c1:=hB2.cell 1 (v:= .map (some mb)) rfl;have d0:=ky.cell 0 (v:= .int .i64 a0) rfl;have d1:=ky.cell 1 (v:= .int .i64 a1) rfl;have d2:=ky.cell 2 (v:= .int .i64 a3) rfl;obtain⟨av,cv,hva⟩:=hO2.sl
 subst hva;have HKX:=hidP kx;have HKY:=hidP ky;have HB:=hidP hB2;have HO:=hidP hO2;have HM:=hidP hM2;have HBW:=hidP HB2;have HOL:=hidP (fun k (hk:(Value.slice av L.length cv).ownBlock=some k)=>(hO.lt k hk));rcases hM2.look hs with⟨i,hi,hei,hlk⟩ | ⟨hno,hlk⟩
 ·-- there is one that is alike
  have hi':i<L.length:=by simpa using hi
  rw[jja2 hi']at hei;have hal:alikeB (el L i) (a0,a1,a2,a3)=true:=by
   simp only[ky3,Prod.mk.injEq]at hei;exact alike_iff.2 ⟨hei.1,hei.2.1,hei.2.2⟩
  rw[ladd_old hp hi' hal];simp only;have HLK:Hid (∀ wx,wx.heap[mb]? =W2.heap[mb]?→(Instr.lookup 128 (.map (some mb)) (.agg #[.int .i64 a0,.int .i64 a1,.int .i64 a3]) true).run Tryz.prog wx= .ok (.tuple #[.int .i64 (i:Int),.bool true]) wx):=fun wx hwx=>by
   rcases(hM2.keep (w':=wx) hwx).look hs with⟨i2,hi2,hei2,hlk2⟩ | ⟨hno2,_⟩
   ·have e:i2=i:=by
     rw[jja2 (by simpa using hi2)]at hei2;have hi2':i2<L.length:=by simpa using hi2
     rcases Nat.lt_trichotomy i2 i with g | g | g
     ·have:=List.pairwise_iff_getElem.1 hp i2 i hi2' hi' g
      rw[← jjaj hi2',← jjaj hi']at this;have t:alikeB (el L i2) (el L i)=true:=by
       simp only[ky3,Prod.mk.injEq]at hei hei2;exact alike_iff.2 (by omega)
      rw[t]at this;cases this
     ·exact g
     ·have:=List.pairwise_iff_getElem.1 hp i i2 hi' hi2' g
      rw[← jjaj hi2',← jjaj hi']at this;have t:alikeB (el L i) (el L i2)=true:=by
       simp only[ky3,Prod.mk.injEq]at hei hei2;exact alike_iff.2 (by omega)
      rw[t]at this;cases this
    subst e;exact hlk2
   ·exact absurd (hei▸List.mem_map_of_mem (jjac hi')) hno2
  obtain⟨g,off,hav,hgl,_,_,r2,_⟩:=jjeg hO2.arcs hi'
  have hoff:off=0∧base≤g:=by
   rcases hO2.2 with⟨hv,hn0⟩ | ⟨g',cap',cur,hv,hbg,_⟩
   ·omega
   ·simp only[Value.slice.injEq]at hv
    obtain⟨hv,_⟩:=hv
    rw[hav]at hv;injection hv with hv
    injection hv with h1 h2
    subst h1;exact⟨h2,hbg⟩
  obtain⟨rfl,hbg⟩:=hoff
  subst hav;rw[Nat.zero_add]at r2;have rf:W2.frozen? ⟨g,i*4+2,none⟩=false:=by
   rcases hO2.2 with⟨hv,hn0⟩ | ⟨g',cap',cur,hv,hbg,hg,_⟩
   ·omega
   ·simp only[Value.slice.injEq,Option.some.injEq,Addr.mk.injEq]at hv
    obtain⟨⟨rfl,_⟩,_⟩:=hv
    exact Blk.fz (cs:=cur) (t:=56) hg _
  have HO3:=hidP (hO2.setW2 hi' (lowV a2 (el L i).2.2.1));have gne:b≠g:=fun e=>(jjak hO2 hB2 (by decide)) (by simp[Value.ownBlock,e])
  have mne:mb≠g:=fun e=>(hM2.neRow hO2) (by simp[Value.ownBlock,e])
  have HB3:=hidP (hB2.setO ⟨g,i*4+2,none⟩ (.int .i64 (lowV a2 (el L i).2.2.1)) gne);have HM3:=hidP (hM2.keep (Below.heap_setCell W2 ⟨g,i*4+2,none⟩ (.int .i64 (lowV a2 (el L i).2.2.1)) mb mne));rw[← ky3_set hi' (lowV a2 (el L i).2.2.1)]at HM3;have HBE:=hidP ((HB2.mono (Nat.le_of_lt hbW)).setCell (p:=⟨g,i*4+2,none⟩) hbg (.int .i64 (lowV a2 (el L i).2.2.1)));have hx2:=kx.cell 2 (v:= .int .i64 a2) rfl
  have HLO:Hid ((if a2<(el L i).2.2.1 then a2 else(el L i).2.2.1)=lowV a2 (el L i).2.2.1):=rfl;have i0:(0:Int)≤(i:Int):=by omega
  have i1:(i:Int)<(L.length:Int):=by omega
  clear hlk hal hei hi hM hB hO hB2 hO2 hM2 HB HO HM kx ky gne mne HKX HKY HB2;generalize L.set i ((el L i).1,(el L i).2.1,lowV a2 (el L i).2.2.1,(el L i).2.2.2)=L2 at *;generalize (el L i).2.2.1=x2 at *;generalize lowV a2 x2=x3 at *;generalize L.length=n at *;go_enter Tryz.func94,Tryz.ntmps94;go_wp2;rw[← HW2.out]
  have HSQ:HeldE5 b (.slice (some ⟨g,0,none⟩) n cv) (.map (some mb)) (W.heap.size+1) a0 a1 a3 mb W2.heap[mb]? W2.drew:=⟨⟨c0,c1,d0,d1,d2⟩,rfl⟩
  refine jjaf (HeldE5 b (.slice (some ⟨g,0,none⟩) n cv) (.map (some mb)) (W.heap.size+1) a0 a1 a3 mb W2.heap[mb]?) 1000 (by kernel_rfl) ?_
  refine jjaa (v:=?v0_1) aZ0 ?y0_1 HSQ ?r0_1
  case y0_1=>intro wx hx;obtain⟨⟨h0,h1,h2,h3,h4⟩,h5⟩:=hx;go_simp;try (with_reducible rfl)
  simp only[Act.put,sA,sB,sC];refine jjaa (v:=?v1_2) aZ1 ?y1_2 HSQ ?r1_2
  case y1_2=>intro wx hx;obtain⟨⟨h0,h1,h2,h3,h4⟩,h5⟩:=hx;go_simp;try (with_reducible rfl)
  simp only[Act.put,sA,sB,sC];refine jjaa (v:=?v2_3) aZ2 ?y2_3 HSQ ?r2_3
  case y2_3=>intro wx hx;obtain⟨⟨h0,h1,h2,h3,h4⟩,h5⟩:=hx;go_simp;try (with_reducible rfl)
  simp only[Act.put,sA,sB,sC];refine jjaa (v:=?v3_4) aZ3 ?y3_4 HSQ ?r3_4
  case y3_4=>intro wx hx;obtain⟨⟨h0,h1,h2,h3,h4⟩,h5⟩:=hx;go_simp;try (with_reducible rfl)
  simp only[Act.put,sA,sB,sC];refine jjaa (v:=?v4_5) aZ4 ?y4_5 HSQ ?r4_5
  case y4_5=>intro wx hx;obtain⟨⟨h0,h1,h2,h3,h4⟩,h5⟩:=hx;go_simp;try (with_reducible rfl)
  simp only[Act.put,sA,sB,sC];refine jjaa (v:= .tuple #[.int .i64 (Nat.cast i),.bool true]) aZ5 ?y5_52 HSQ ?r5_52
  case y5_52=>intro wx hx;obtain⟨_,h5⟩:=hx;have h6:=HLK.out wx h5;go_simp
  simp only[Act.put,sA,sB,sC];refine jjaa (v:=?v6_6) aZ6 ?y6_6 HSQ ?r6_6
  case y6_6=>intro wx hx;obtain⟨⟨h0,h1,h2,h3,h4⟩,h5⟩:=hx;go_simp;try (with_reducible rfl)
  simp only[Act.put,sA,sB,sC];refine jjaa (v:=?v7_7) aZ7 ?y7_7 HSQ ?r7_7
  case y7_7=>intro wx hx;obtain⟨⟨h0,h1,h2,h3,h4⟩,h5⟩:=hx;go_simp;try (with_reducible rfl)
  simp only[Act.put,sA,sB,sC];refine jjaa (v:=?v8_8) aZ8 ?y8_8 HSQ ?r8_8
  case y8_8=>intro wx hx;obtain⟨⟨h0,h1,h2,h3,h4⟩,h5⟩:=hx;go_simp;try (with_reducible rfl)
  simp only[Act.put,sA,sB,sC];refine jjaa (v:=?v9_9) aZ9 ?y9_9 HSQ ?r9_9
  case y9_9=>intro wx hx;obtain⟨⟨h0,h1,h2,h3,h4⟩,h5⟩:=hx;go_simp;try (with_reducible rfl)
  simp only[Act.put,sA,sB,sC];refine jjaa (v:=?v10_10) aZ10 ?y10_10 HSQ ?r10_10
  case y10_10=>intro wx hx;obtain⟨⟨h0,h1,h2,h3,h4⟩,h5⟩:=hx;go_simp;try (with_reducible rfl)
  simp only[Act.put,sA,sB,sC];refine jjad (by kernel_rfl) (NoPanic.normal ?_)
  try simp only[Act.put,sA,sB,sC]
  clear HSQ;go_wp2;have HS:HeldOk b (.slice (some ⟨g,0,none⟩) n cv) g i x2 W.heap.size a2 W2.drew.drew:=⟨c0,r2,hx2⟩
  have rf':W2.drew.drew.frozen? ⟨g,i*4+2,none⟩=false:=rf;refine jjaf (HeldOk b (.slice (some ⟨g,0,none⟩) n cv) g i x2 W.heap.size a2) 18 (by kernel_rfl) ?_
  refine jjaa (v:=?v0_11) aZ0 ?y0_11 HS ?r0_11
  case y0_11=>intro wx hx;obtain⟨h0,h1,h2⟩:=hx;go_simp;try (with_reducible rfl)
  simp only[Act.put,sA,sB,sC];refine jjaa (v:=?v1_12) aZ1 ?y1_12 HS ?r1_12
  case y1_12=>intro wx hx;obtain⟨h0,h1,h2⟩:=hx;go_simp;try (with_reducible rfl)
  simp only[Act.put,sA,sB,sC];refine jjaa (v:=?v2_13) aZ2 ?y2_13 HS ?r2_13
  case y2_13=>intro wx hx;obtain⟨h0,h1,h2⟩:=hx;go_simp;try (with_reducible rfl)
  simp only[Act.put,sA,sB,sC];refine jjaa (v:=?v3_14) aZ3 ?y3_14 HS ?r3_14
  case y3_14=>intro wx hx;obtain⟨h0,h1,h2⟩:=hx;go_simp;try (with_reducible rfl)
  simp only[Act.put,sA,sB,sC];refine jjaa (v:=?v4_15) aZ4 ?y4_15 HS ?r4_15
  case y4_15=>intro wx hx;obtain⟨h0,h1,h2⟩:=hx;go_simp;try (with_reducible rfl)
  simp only[Act.put,sA,sB,sC];refine jjaa (v:=?v5_16) aZ5 ?y5_16 HS ?r5_16
  case y5_16=>intro wx hx;obtain⟨h0,h1,h2⟩:=hx;go_simp;try (with_reducible rfl)
  simp only[Act.put,sA,sB,sC];refine jjaa (v:=?v6_17) aZ6 ?y6_17 HS ?r6_17
  case y6_17=>intro wx hx;obtain⟨h0,h1,h2⟩:=hx;go_simp;try (with_reducible rfl)
  simp only[Act.put,sA,sB,sC];refine jjaa (v:=?v7_18) aZ7 ?y7_18 HS ?r7_18
  case y7_18=>intro wx hx;obtain⟨h0,h1,h2⟩:=hx;go_simp;try (with_reducible rfl)
  simp only[Act.put,sA,sB,sC];refine jjaa (v:=?v8_19) aZ8 ?y8_19 HS ?r8_19
  case y8_19=>intro wx hx;obtain⟨h0,h1,h2⟩:=hx;go_simp;try (with_reducible rfl)
  simp only[Act.put,sA,sB,sC];refine jjaa (v:=?v9_20) aZ9 ?y9_20 HS ?r9_20
  case y9_20=>intro wx hx;obtain⟨h0,h1,h2⟩:=hx;go_simp;try (with_reducible rfl)
  simp only[Act.put,sA,sB,sC];refine jjaa (v:=?v10_21) aZ10 ?y10_21 HS ?r10_21
  case y10_21=>intro wx hx;obtain⟨h0,h1,h2⟩:=hx;go_simp;try (with_reducible rfl)
  simp only[Act.put,sA,sB,sC];refine jjaa (v:=?v11_22) aZ11 ?y11_22 HS ?r11_22
  case y11_22=>intro wx hx;obtain⟨h0,h1,h2⟩:=hx;go_simp;try (with_reducible rfl)
  simp only[Act.put,sA,sB,sC];refine jjaa (v:=?v12_23) aZ12 ?y12_23 HS ?r12_23
  case y12_23=>intro wx hx;obtain⟨h0,h1,h2⟩:=hx;go_simp;try (with_reducible rfl)
  simp only[Act.put,sA,sB,sC];refine jjaa (v:=?v13_24) aZ13 ?y13_24 HS ?r13_24
  case y13_24=>intro wx hx;obtain⟨h0,h1,h2⟩:=hx;go_simp;try (with_reducible rfl)
  simp only[Act.put,sA,sB,sC];refine jjaa (v:=?v14_25) aZ14 ?y14_25 HS ?r14_25
  case y14_25=>intro wx hx;obtain⟨h0,h1,h2⟩:=hx;go_simp;try (with_reducible rfl)
  simp only[Act.put,sA,sB,sC];refine jjaa (v:= .int .i64 x3) aZ15 ?y15_53 HS ?r15_53
  case y15_53=>intro wx hx;obtain⟨h0,h1,h2⟩:=hx;go_simp;rw[HLO.out]
  simp only[Act.put,sA,sB,sC];refine jjab aZ16 (fun K hK=>?_)
  go_simp;refine hK _ _ (.inr HS) ?_
  try simp only[Act.put,sA,sB,sC]
  refine jjab aZ17 (fun K hK=>?_)
  go_simp;refine hK _ _ (.inr HS) ?_
  try simp only[Act.put,sA,sB,sC]
  refine jjab aZ18 (fun K hK=>?_)
  obtain⟨h0,h1,h2⟩:=HS
  go_simp;refine hK _ _ (.inl rfl) (jjad (by kernel_rfl) (NoPanic.normal ?_))
  try simp only[Act.put,sA,sB,sC]
  clear h0 h1 h2;go_wp2;go_end0;exact⟨rfl,⟨_,mb,HB3.out,HO3.out,HM3.out,hbb,hbm⟩,HBE.out.drew.drew⟩
 ·-- there is none
  have hap:∀ x ∈ L,alikeB x (a0,a1,a2,a3)=false:=ky3_mem.1 hno;rw[ladd_new hap];have HLK:Hid (∀ wx,wx.heap[mb]? =W2.heap[mb]?→(Instr.lookup 128 (.map (some mb)) (.agg #[.int .i64 a0,.int .i64 a1,.int .i64 a3]) true).run Tryz.prog wx= .ok (.tuple #[.int .i64 0,.bool false]) wx):=fun wx hwx=>by
   rcases(hM2.keep (w':=wx) hwx).look hs with⟨i2,hi2,hei2,hlk2⟩ | ⟨hno2,hlk2⟩
   ·exact absurd (hei2▸jjac hi2) hno
   ·exact hlk2
  have hlm:(L.map ky3).length=L.length:=by simp
  obtain⟨W4,hup,hM4,hg4⟩:=(hM2.keep (w':=W2.drew.drew) rfl).put hs hno (by rw[hlm];exact hl)
  rw[hlm]at hup;have mneb:b≠mb:=Ne.symm (hM2.neBlk hB2);have hB4:Blk W4 b #[.slice av L.length cv,.map (some mb)] 130:=(hB2.drew.drew).grown hg4 (fun e=>mneb (by injection e));have kx4:Blk W4 W.heap.size #[.int .i64 a0,.int .i64 a1,.int .i64 a2,.int .i64 a3] 56:=(kx.drew.drew).grown hg4 (fun e=>by injection e with e;omega)
  have hO4:OwnArcs W4 base (.slice av L.length cv) L:=World.ownsRow.kept (w:=W2.drew.drew) hO2 hg4 (.inr (Ne.symm (hM2.neRow hO2)));have hs4:W.heap.size+2≤W4.heap.size:=by have:=hg4.size;show _≤_;have e:W2.drew.drew.heap.size=W2.heap.size:=rfl;omega
  -- one more row, and what is appended to
  have hA5:Below W4.heap.size W4 (W4.drew.alloc (.cells #[.int .i64 a0,.int .i64 a1,.int .i64 a2,.int .i64 a3] 56)):=((Below.refl _ _).drew).alloc (Nat.le_refl _) _;have hrow:Arcs (W4.drew.alloc (.cells #[.int .i64 a0,.int .i64 a1,.int .i64 a2,.int .i64 a3] 56)) (.slice (some ⟨W4.heap.size,0,none⟩) 1 1) [(a0,a1,a2,a3)]:=oneRow (enc:=encA) W4.drew (a0,a1,a2,a3) rfl 56
  obtain⟨a6,n6,c6,w6,hr6,ho6,hg6,hb6⟩:=arcs_join (hO4.later hA5) hrow (by simp;omega) (by have:=hA5.size;omega)
  obtain⟨a6',c6',hv6⟩:=ho6.sl
  have e6:n6=L.length+1:=by injection hv6 with _ e _;rw[e];simp
  subst e6;have hB5:=hB4.below hA5 hB4.lt;have hk5:=kx4.below hA5 kx4.lt;have hB6:Blk w6 b #[.slice av L.length cv,.map (some mb)] 130:=hB5.grown hg6 (jjak (hO4.later hA5) hB5 (by decide));have hk6:Blk w6 W.heap.size #[.int .i64 a0,.int .i64 a1,.int .i64 a2,.int .i64 a3] 56:=hk5.grown hg6 (fun e=>by have:=(HOL.out _ e.symm).2;omega)
  have hM5:PlcM (W4.drew.alloc (.cells #[.int .i64 a0,.int .i64 a1,.int .i64 a2,.int .i64 a3] 56)) mb (L.map ky3++[ky3 (a0,a1,a2,a3)]):=hM4.keep (hA5.block _ hM4.lt);have hM6:=hM5.keep (hg6.block _ hM5.lt (hM5.neRow (hO4.later hA5)));have hB7:=hB6.set 0 (.slice a6 (L.length+1) c6);have gne:some b≠(Value.slice a6 (L.length+1) c6).ownBlock:=jjak ho6 hB6 (by decide)
  have hO7:OwnArcs (w6.setCell ⟨b,0,none⟩ (.slice a6 (L.length+1) c6)) base (.slice a6 (L.length+1) c6) (L++[(a0,a1,a2,a3)]):=World.ownsRow.kept ho6 (gSet w6 b 0 _) (.inr (Ne.symm gne));have hM7:=hM6.keep (Below.heap_setCell w6 ⟨b,0,none⟩ (.slice a6 (L.length+1) c6) mb (Ne.symm mneb))
  have hB47:Below base W W4:=((HB2.mono (Nat.le_of_lt hbW)).drew.drew).grown hg4 (by show base≤W2.heap.size;omega) (fun k hk=>by injection hk with hk;omega);have HBE:=hidP (((hB47.trans (hA5.mono (by omega))).trans hb6).setCell (p:=⟨b,0,none⟩) hbb (.slice a6 (L.length+1) c6));have HB7:=hidP hB7;have HO7:=hidP hO7;have HM7:=hidP hM7;have HUP:=hidP hup;have HR6:=hidP hr6
  have HSA:HeldE2 b (.slice av L.length cv) W.heap.size a0 a1 a2 a3 W4.drew:=⟨hB4.cell 0 rfl,kx4.cell 0 rfl,kx4.cell 1 rfl,kx4.cell 2 rfl,kx4.cell 3 rfl⟩
  have HSB:HeldE2 b (.slice av L.length cv) W.heap.size a0 a1 a2 a3 (W4.drew.alloc (.cells #[.int .i64 a0,.int .i64 a1,.int .i64 a2,.int .i64 a3] 56)):=⟨hB5.cell 0 rfl,hk5.cell 0 rfl,hk5.cell 1 rfl,hk5.cell 2 rfl,hk5.cell 3 rfl⟩
  have HSC:HeldE2 b (.slice av L.length cv) W.heap.size a0 a1 a2 a3 w6:=⟨hB6.cell 0 rfl,hk6.cell 0 rfl,hk6.cell 1 rfl,hk6.cell 2 rfl,hk6.cell 3 rfl⟩
  have c6':=hB6.cell 0 (v:= .slice av L.length cv) rfl;have f6:=hB6.fz 0;clear hlk hM hB hO hB2 hO2 hM2 HB HO HM kx ky HKX HKY HB2 hup hM4 hg4 hB4 kx4 hO4 hA5 hrow hr6 ho6 hg6 hb6 hB5 hk5 hB6 hk6 hM5 hM6 hB7 hO7 hM7 hB47 hv6 gne hap hno hlm hs hp;rw[show L.map ky3++[ky3 (a0,a1,a2,a3)]=(L++[(a0,a1,a2,a3)]).map ky3 from by simp]at HM7;generalize L++[(a0,a1,a2,a3)]=L2 at *
  generalize hn:L.length=n at *;clear hn;go_enter Tryz.func94,Tryz.ntmps94;go_wp2;rw[← HW2.out];have HSQ:HeldE5 b (.slice av n cv) (.map (some mb)) (W.heap.size+1) a0 a1 a3 mb W2.heap[mb]? W2.drew:=⟨⟨c0,c1,d0,d1,d2⟩,rfl⟩
  refine jjaf (HeldE5 b (.slice av n cv) (.map (some mb)) (W.heap.size+1) a0 a1 a3 mb W2.heap[mb]?) 1000 (by kernel_rfl) ?_
  refine jjaa (v:=?v0_26) aZ0 ?y0_26 HSQ ?r0_26
  case y0_26=>intro wx hx;obtain⟨⟨h0,h1,h2,h3,h4⟩,h5⟩:=hx;go_simp;try (with_reducible rfl)
  simp only[Act.put,sA,sB,sC];refine jjaa (v:=?v1_27) aZ1 ?y1_27 HSQ ?r1_27
  case y1_27=>intro wx hx;obtain⟨⟨h0,h1,h2,h3,h4⟩,h5⟩:=hx;go_simp;try (with_reducible rfl)
  simp only[Act.put,sA,sB,sC];refine jjaa (v:=?v2_28) aZ2 ?y2_28 HSQ ?r2_28
  case y2_28=>intro wx hx;obtain⟨⟨h0,h1,h2,h3,h4⟩,h5⟩:=hx;go_simp;try (with_reducible rfl)
  simp only[Act.put,sA,sB,sC];refine jjaa (v:=?v3_29) aZ3 ?y3_29 HSQ ?r3_29
  case y3_29=>intro wx hx;obtain⟨⟨h0,h1,h2,h3,h4⟩,h5⟩:=hx;go_simp;try (with_reducible rfl)
  simp only[Act.put,sA,sB,sC];refine jjaa (v:=?v4_30) aZ4 ?y4_30 HSQ ?r4_30
  case y4_30=>intro wx hx;obtain⟨⟨h0,h1,h2,h3,h4⟩,h5⟩:=hx;go_simp;try (with_reducible rfl)
  simp only[Act.put,sA,sB,sC];refine jjaa (v:= .tuple #[.int .i64 0,.bool false]) aZ5 ?y5_54 HSQ ?r5_54
  case y5_54=>intro wx hx;obtain⟨_,h5⟩:=hx;have h6:=HLK.out wx h5;go_simp
  simp only[Act.put,sA,sB,sC];refine jjaa (v:=?v6_31) aZ6 ?y6_31 HSQ ?r6_31
  case y6_31=>intro wx hx;obtain⟨⟨h0,h1,h2,h3,h4⟩,h5⟩:=hx;go_simp;try (with_reducible rfl)
  simp only[Act.put,sA,sB,sC];refine jjaa (v:=?v7_32) aZ7 ?y7_32 HSQ ?r7_32
  case y7_32=>intro wx hx;obtain⟨⟨h0,h1,h2,h3,h4⟩,h5⟩:=hx;go_simp;try (with_reducible rfl)
  simp only[Act.put,sA,sB,sC];refine jjaa (v:=?v8_33) aZ8 ?y8_33 HSQ ?r8_33
  case y8_33=>intro wx hx;obtain⟨⟨h0,h1,h2,h3,h4⟩,h5⟩:=hx;go_simp;try (with_reducible rfl)
  simp only[Act.put,sA,sB,sC];refine jjaa (v:=?v9_34) aZ9 ?y9_34 HSQ ?r9_34
  case y9_34=>intro wx hx;obtain⟨⟨h0,h1,h2,h3,h4⟩,h5⟩:=hx;go_simp;try (with_reducible rfl)
  simp only[Act.put,sA,sB,sC];refine jjaa (v:=?v10_35) aZ10 ?y10_35 HSQ ?r10_35
  case y10_35=>intro wx hx;obtain⟨⟨h0,h1,h2,h3,h4⟩,h5⟩:=hx;go_simp;try (with_reducible rfl)
  simp only[Act.put,sA,sB,sC];refine jjad (by kernel_rfl) (NoPanic.normal ?_)
  try simp only[Act.put,sA,sB,sC]
  clear HSQ;go_wp2;have HSL:HeldE3 b (.slice av n cv) (.map (some mb)) (W.heap.size+1) a0 a1 a3 W2.drew.drew:=⟨c0,c1,d0,d1,d2⟩
  refine jjaf (HeldE3 b (.slice av n cv) (.map (some mb)) (W.heap.size+1) a0 a1 a3) 10 (by kernel_rfl) ?_
  refine jjaa (v:=?v0_36) aZ0 ?y0_36 HSL ?r0_36
  case y0_36=>intro wx hx;obtain⟨h0,h1,h2,h3,h4⟩:=hx;go_simp;try (with_reducible rfl)
  simp only[Act.put,sA,sB,sC];refine jjaa (v:=?v1_37) aZ1 ?y1_37 HSL ?r1_37
  case y1_37=>intro wx hx;obtain⟨h0,h1,h2,h3,h4⟩:=hx;go_simp;try (with_reducible rfl)
  simp only[Act.put,sA,sB,sC];refine jjaa (v:=?v2_38) aZ2 ?y2_38 HSL ?r2_38
  case y2_38=>intro wx hx;obtain⟨h0,h1,h2,h3,h4⟩:=hx;go_simp;try (with_reducible rfl)
  simp only[Act.put,sA,sB,sC];refine jjaa (v:=?v3_39) aZ3 ?y3_39 HSL ?r3_39
  case y3_39=>intro wx hx;obtain⟨h0,h1,h2,h3,h4⟩:=hx;go_simp;try (with_reducible rfl)
  simp only[Act.put,sA,sB,sC];refine jjaa (v:=?v4_40) aZ4 ?y4_40 HSL ?r4_40
  case y4_40=>intro wx hx;obtain⟨h0,h1,h2,h3,h4⟩:=hx;go_simp;try (with_reducible rfl)
  simp only[Act.put,sA,sB,sC];refine jjaa (v:=?v5_41) aZ5 ?y5_41 HSL ?r5_41
  case y5_41=>intro wx hx;obtain⟨h0,h1,h2,h3,h4⟩:=hx;go_simp;try (with_reducible rfl)
  simp only[Act.put,sA,sB,sC];refine jjaa (v:=?v6_42) aZ6 ?y6_42 HSL ?r6_42
  case y6_42=>intro wx hx;obtain⟨h0,h1,h2,h3,h4⟩:=hx;go_simp;try (with_reducible rfl)
  simp only[Act.put,sA,sB,sC];refine jjaa (v:=?v7_43) aZ7 ?y7_43 HSL ?r7_43
  case y7_43=>intro wx hx;obtain⟨h0,h1,h2,h3,h4⟩:=hx;go_simp;try (with_reducible rfl)
  simp only[Act.put,sA,sB,sC];refine jjaa (v:=?v8_44) aZ8 ?y8_44 HSL ?r8_44
  case y8_44=>intro wx hx;obtain⟨h0,h1,h2,h3,h4⟩:=hx;go_simp;try (with_reducible rfl)
  simp only[Act.put,sA,sB,sC];refine jjaa (v:=?v9_45) aZ9 ?y9_45 HSL ?r9_45
  case y9_45=>intro wx hx;obtain⟨h0,h1,h2,h3,h4⟩:=hx;go_simp;try (with_reducible rfl)
  simp only[Act.put,sA,sB,sC];refine jjab aZ10 (fun K hK=>?_)
  have hup:=HUP.out;simp only[ky3]at hup;clear HSL c0 c1 d0 d1 d2;go_simp;refine hK _ _ (.inl rfl) (jjad (by kernel_rfl) (NoPanic.normal ?_))
  try simp only[Act.put,sA,sB,sC]
  clear hup;go_wp2;refine jjaf (HeldE2 b (.slice av n cv) W.heap.size a0 a1 a2 a3) 10 (by kernel_rfl) ?_
  refine jjaa (v:=?v0_46) aZ0 ?y0_46 HSA ?r0_46
  case y0_46=>intro wx hx;obtain⟨h0,h1,h2,h3,h4⟩:=hx;go_simp;try (with_reducible rfl)
  simp only[Act.put,sA,sB,sC];refine jjaa (v:=?v1_47) aZ1 ?y1_47 HSA ?r1_47
  case y1_47=>intro wx hx;obtain⟨h0,h1,h2,h3,h4⟩:=hx;go_simp;try (with_reducible rfl)
  simp only[Act.put,sA,sB,sC];refine jjaa (v:=?v2_48) aZ2 ?y2_48 HSA ?r2_48
  case y2_48=>intro wx hx;obtain⟨h0,h1,h2,h3,h4⟩:=hx;go_simp;try (with_reducible rfl)
  simp only[Act.put,sA,sB,sC];refine jjaa (v:=?v3_49) aZ3 ?y3_49 HSA ?r3_49
  case y3_49=>intro wx hx;obtain⟨h0,h1,h2,h3,h4⟩:=hx;go_simp;try (with_reducible rfl)
  simp only[Act.put,sA,sB,sC];refine jjaa (v:=?v4_50) aZ4 ?y4_50 HSA ?r4_50
  case y4_50=>intro wx hx;obtain⟨h0,h1,h2,h3,h4⟩:=hx;go_simp;try (with_reducible rfl)
  simp only[Act.put,sA,sB,sC];refine jjaa (v:=?v5_51) aZ5 ?y5_51 HSA ?r5_51
  case y5_51=>intro wx hx;obtain⟨h0,h1,h2,h3,h4⟩:=hx;go_simp;try (with_reducible rfl)
  simp only[Act.put,sA,sB,sC];refine jjab aZ6 (fun K hK=>?_)
  go_simp;refine hK _ _ (.inr HSB) ?_
  try simp only[Act.put,sA,sB,sC]
  refine jjab aZ7 (fun K hK=>?_)
  refine jjaw (.tmp 39) (.tmp 41) 43 rfl rfl rfl HR6.out ?_
  refine hK _ _ (.inr HSC) ?_
  try simp only[Act.put,sA,sB,sC]
  refine jjab aZ8 (fun K hK=>?_)
  go_simp;refine hK _ _ (.inr HSC) ?_
  try simp only[Act.put,sA,sB,sC]
  refine jjab aZ9 (fun K hK=>?_)
  go_simp;refine hK _ _ (.inr HSC) ?_
  try simp only[Act.put,sA,sB,sC]
  refine jjab aZ10 (fun K hK=>?_)
  go_simp;refine hK _ _ (.inl rfl) (jjad (by kernel_rfl) (NoPanic.normal ?_))
  try simp only[Act.put,sA,sB,sC]
  clear HSA HSB HSC;go_wp2;exact bodyPost_ret (v:= .tuple #[]) (by simp[results,Tryz.results94,go_sem]) rfl ⟨rfl,⟨_,mb,HB7.out,HO7.out,HM7.out,hbb,hbm⟩,HBE.out⟩
theorem isOver_any (base b:Nat)(L:List Ar)(W:World)(h:LigM W base b L)(hl:L.length<100000)(r:Bool)(hr:L.any bigA=r):
  Calls Tryz.prog 95 #[.pointer (some ⟨b,0,none⟩)] W fun e W'=>e= .returned (.bool r)∧Below W.heap.size W W':=by
 obtain⟨va,mb,hB,hO,hM,hbb,hbm⟩:=h
 have c0:=hB.cell 0 (v:=va) rfl;obtain⟨av,cv,rfl,hc⟩:=hO.arcs.get
 have HC:=hidP hc;have HA0:Hid ((L.take 0).any bigA=false):=by show _=_;simp
 have HAS:Hid (∀ i,i<L.length→(L.take (i+1)).any bigA=((L.take i).any bigA||bigA (el L i))):=fun i hi=>any_take hi _
 have HAT:Hid ((L.take L.length).any bigA=r):=by show _=_;rw[List.take_length];exact hr
 have HAE:Hid (∀ i,i<L.length→bigA (el L i)=true→r=true):=fun i hi g=>by rw[← hr];exact List.any_eq_true.2 ⟨_,jjac hi,g⟩
 clear hB hO hM hc hr;obtain⟨TK,hTK⟩:∃ TK:Nat→Bool,∀ i,(L.take i).any bigA=TK i:=⟨_,fun _=>rfl⟩
 simp only[hTK]at HA0 HAS HAT;clear hTK;generalize L.length=n at *;go_enter Tryz.func95,Tryz.ntmps95;go_wp2;clear c0;go_loopw [10] (fun i wi=>∃ (j:Nat),j≤n∧i= .int .i64 j∧Hid (TK j=false)∧Hid (Below W.heap.size W wi)) (fun i _=>n-(intOf i).toNat)
 case atStart=>exact ⟨0,Nat.zero_le _,rfl,HA0,Below.refl _ _⟩
 case round=>
  obtain⟨j,hj,rfl,hno,hb⟩:=hrel
  obtain⟨w4,hw4⟩:∃ w4,w4=wr:=⟨_,rfl⟩
  subst hw4;by_cases hjl:j<n
  ·have j0:(0:Int)≤(j:Int):=by omega
   have j1:(j:Int)<(n:Int):=by omega
   obtain⟨b6,o6,rfl,hb6,p0c,p1c,p2c,p3c⟩:=HC.out j hjl
   have p0c:=(hb.out.cell (p:=⟨b6,o6+j*4,none⟩) hb6).trans p0c;have p1c:=(hb.out.cell (p:=⟨b6,o6+j*4+1,none⟩) hb6).trans p1c;have p2c:=(hb.out.cell (p:=⟨b6,o6+j*4+2,none⟩) hb6).trans p2c;have p3c:=(hb.out.cell (p:=⟨b6,o6+j*4+3,none⟩) hb6).trans p3c;have HA1:=hidP (HAS.out j hjl);have HA2:=hidP (HAE.out j hjl);obtain⟨pp,hpp⟩:∃ pp,el L j=pp:=⟨_,rfl⟩
   rw[hpp]at p0c p1c p2c p3c HA1 HA2;clear hpp;obtain⟨p0,p1,p2,p3⟩:=pp
   simp only at p0c p1c p2c p3c HA1 HA2;by_cases hg:1000000000<p2
   ·have HE:=hidP (HA2.out (by simp[bigA,hg]))
    go_wp2;go_ret;exact⟨jjar HE.out.symm,hb.out.alloc hb.out.size _⟩
   ·have HE:Hid (TK (j+1)=false):=by
     show _=_;rw[HA1.out,hno.out];simp[bigA,hg]
    go_wp2;go_roundw
    case rel=>exact ⟨j+1,by omega,by go_num,HE,hb.out.alloc hb.out.size _⟩
    case measure=>simp [intOf];omega
  ·have j1:¬ (j:Int)<(n:Int):=by omega
   obtain rfl:n=j:=by omega
   have HE:Hid (false=r):=by show _=_;rw[← HAT.out];exact hno.out.symm
   go_wp2;go_ret;exact⟨jjar HE.out,hb.out⟩
def endR (f:Int)(va:Value):Value × Int:=if f=aptI then(.agg #[.int .i64 1000000001,va],0) else if 1000000000<f then(.agg #[.int .i64 0,.slice none 0 0],4) else(.agg #[.int .i64 f,va],0)
theorem ending_any (f:Int)(a:Option Addr)(n c:Nat)(W:World):
  Calls Tryz.prog 96 #[.int .i64 f,.slice a n c] W fun e W'=>e= .returned (.tuple #[(endR f (.slice a n c)).1,.int .i64 (endR f (.slice a n c)).2])∧Below W.heap.size W W':=by
 by_cases h1:f=4611686018427387903
 ·subst h1
  have e:endR 4611686018427387903 (.slice a n c)=(.agg #[.int .i64 1000000001,.slice a n c],0):=rfl;rw[e];go_enter Tryz.func96,Tryz.ntmps96;go_wp2;exact bodyPost_ret (v:= .tuple #[.agg #[.int .i64 1000000001,.slice a n c],.int .i64 0]) (by simp[results,Tryz.results96,go_sem, *]) rfl ⟨rfl,by go_grown⟩
 ·have h1':(f==4611686018427387903)=false:=by simpa using h1
  by_cases h2:1000000000<f
  ·have e:endR f (.slice a n c)=(.agg #[.int .i64 0,.slice none 0 0],4):=by unfold endR aptI;rw[if_neg h1,if_pos h2]
   rw[e];clear e h1;go_enter Tryz.func96,Tryz.ntmps96;go_wp2;exact bodyPost_ret (v:= .tuple #[.agg #[.int .i64 0,.slice none 0 0],.int .i64 4]) (by simp[results,Tryz.results96,go_sem, *]) rfl ⟨rfl,by go_grown⟩
  ·have e:endR f (.slice a n c)=(.agg #[.int .i64 f,.slice a n c],0):=by unfold endR aptI;rw[if_neg h1,if_neg h2]
   rw[e];clear e h1;go_enter Tryz.func96,Tryz.ntmps96;go_wp2;exact bodyPost_ret (v:= .tuple #[.agg #[.int .i64 f,.slice a n c],.int .i64 0]) (by simp[results,Tryz.results96,go_sem, *]) rfl ⟨rfl,by go_grown⟩
end Go.Proofs.YtppkiejhhmahcaaGreatDoor.Wt
