/- Facts, joined. -/
import Derived.Test.YtppkiejhhmahcaaGreatDoorSax
set_option linter.unusedSimpArgs false
set_option linter.unusedVariables false
set_option maxHeartbeats 6400000
set_option maxRecDepth 100000
namespace Go.Proofs.YtppkiejhhmahcaaGreatDoor.Wt
open ChangeShapes WideShapes ChangeAt RowKit Pl
theorem later_growC {W w':World}(hb:Below W.heap.size W w')(hd:W.drawn≤w'.drawn):∃ q os',w'=Go.Sort.grow (W.drewN q) os':=by
 refine⟨w'.drawn-W.drawn,w'.heap.extract W.heap.size w'.heap.size,?_⟩
 obtain⟨h1,h2,h3,h4,h5⟩:=hb
 obtain⟨hp,tp,dr,os,ou⟩:=w'
 simp only at *;have eh:hp=W.heap++hp.extract W.heap.size hp.size:=by
  apply Array.ext_getElem?
  intro i;rw[Array.getElem?_append];split
  ·rename_i hi;exact h5 i hi
  ·rename_i hi
   rw[Array.getElem?_extract];split
   ·congr 1;omega
   ·rw [Array.getElem?_eq_none];omega
 simp only[Go.Sort.grow,World.drewN];rw[← eh,h1,h2,h3];congr 1
 omega
theorem inOrderC_any (a b:Ar)(w:World)(r:Int)(hr:orI (cmpI a.1 b.1) (cmpI a.2.1 b.2.1) (cmpI a.2.2.2 b.2.2.2) (cmpI a.2.2.1 b.2.2.1)=r):
  Calls Tryz.prog 142 #[.agg #[.int .i64 a.1,.int .i64 a.2.1,.int .i64 a.2.2.1,.int .i64 a.2.2.2],.agg #[.int .i64 b.1,.int .i64 b.2.1,.int .i64 b.2.2.1,.int .i64 b.2.2.2]] w fun e w'=>e= .returned (.int .i64 r)∧Below w.heap.size w w'∧w.drawn≤w'.drawn:=by
 obtain⟨a0,a1,a2,a3⟩:=a
 obtain⟨b0,b1,b2,b3⟩:=b
 simp only at hr ⊢;have HR:Hid (orI (cmpI a0 b0) (cmpI a1 b1) (cmpI a3 b3) (cmpI a2 b2)=r):=hr;clear hr;go_enter Tryz.func142,Tryz.ntmps142;go_wp2;refine jjaf (HeldI w.heap.size a0 a1 a2 a3 b0 b1 b2 b3) 1000 (by kernel_rfl) ?_
 have hk:=Blk.made (w.alloc (.cells #[.int .i64 a0,.int .i64 a1,.int .i64 a2,.int .i64 a3] 56)) #[.int .i64 b0,.int .i64 b1,.int .i64 b2,.int .i64 b3] 56;simp only[World.size_alloc]at hk
 have HS:HeldI w.heap.size a0 a1 a2 a3 b0 b1 b2 b3 ((w.alloc (.cells #[.int .i64 a0,.int .i64 a1,.int .i64 a2,.int .i64 a3] 56)).alloc (.cells #[.int .i64 b0,.int .i64 b1,.int .i64 b2,.int .i64 b3] 56)).drew:=⟨((Blk.made w _ _).alloc _).drew,hk.drew⟩
 have HU:Below w.heap.size w ((w.alloc (.cells #[.int .i64 a0,.int .i64 a1,.int .i64 a2,.int .i64 a3] 56)).alloc (.cells #[.int .i64 b0,.int .i64 b1,.int .i64 b2,.int .i64 b3] 56)).drew:=Below.drew (by go_grown)
 have HD:w.drawn≤((w.alloc (.cells #[.int .i64 a0,.int .i64 a1,.int .i64 a2,.int .i64 a3] 56)).alloc (.cells #[.int .i64 b0,.int .i64 b1,.int .i64 b2,.int .i64 b3] 56)).drew.drawn:=Nat.le_succ _;clear hk;generalize hw0:((w.alloc (.cells #[.int .i64 a0,.int .i64 a1,.int .i64 a2,.int .i64 a3] 56)).alloc (.cells #[.int .i64 b0,.int .i64 b1,.int .i64 b2,.int .i64 b3] 56)).drew=w0 at *;clear hw0
 refine jjaa (v:=?v0_1) aZ0 ?y0_1 HS ?r0_1
 case y0_1=>intro wx hx;have p0:=hx.1.cell 0 rfl;have p1:=hx.1.cell 1 rfl;have p2:=hx.1.cell 2 rfl;have p3:=hx.1.cell 3 rfl;have q0:=hx.2.cell 0 rfl;have q1:=hx.2.cell 1 rfl;have q2:=hx.2.cell 2 rfl;have q3:=hx.2.cell 3 rfl;go_simp;try (with_reducible rfl)
 simp only[Act.put,sA,sB,sC];refine jjaa (v:=?v1_2) aZ1 ?y1_2 HS ?r1_2
 case y1_2=>intro wx hx;have p0:=hx.1.cell 0 rfl;have p1:=hx.1.cell 1 rfl;have p2:=hx.1.cell 2 rfl;have p3:=hx.1.cell 3 rfl;have q0:=hx.2.cell 0 rfl;have q1:=hx.2.cell 1 rfl;have q2:=hx.2.cell 2 rfl;have q3:=hx.2.cell 3 rfl;go_simp;try (with_reducible rfl)
 simp only[Act.put,sA,sB,sC];refine jjaa (v:=?v2_3) aZ2 ?y2_3 HS ?r2_3
 case y2_3=>intro wx hx;have p0:=hx.1.cell 0 rfl;have p1:=hx.1.cell 1 rfl;have p2:=hx.1.cell 2 rfl;have p3:=hx.1.cell 3 rfl;have q0:=hx.2.cell 0 rfl;have q1:=hx.2.cell 1 rfl;have q2:=hx.2.cell 2 rfl;have q3:=hx.2.cell 3 rfl;go_simp;try (with_reducible rfl)
 simp only[Act.put,sA,sB,sC];refine jjaa (v:=?v3_4) aZ3 ?y3_4 HS ?r3_4
 case y3_4=>intro wx hx;have p0:=hx.1.cell 0 rfl;have p1:=hx.1.cell 1 rfl;have p2:=hx.1.cell 2 rfl;have p3:=hx.1.cell 3 rfl;have q0:=hx.2.cell 0 rfl;have q1:=hx.2.cell 1 rfl;have q2:=hx.2.cell 2 rfl;have q3:=hx.2.cell 3 rfl;go_simp;try (with_reducible rfl)
 simp only[Act.put,sA,sB,sC];refine jjaa (v:=?v5_5) aZ5 ?y5_5 HS ?r5_5
 case y5_5=>intro wx hx;have p0:=hx.1.cell 0 rfl;have p1:=hx.1.cell 1 rfl;have p2:=hx.1.cell 2 rfl;have p3:=hx.1.cell 3 rfl;have q0:=hx.2.cell 0 rfl;have q1:=hx.2.cell 1 rfl;have q2:=hx.2.cell 2 rfl;have q3:=hx.2.cell 3 rfl;go_simp;try (with_reducible rfl)
 simp only[Act.put,sA,sB,sC];refine jjaa (v:=?v6_6) aZ6 ?y6_6 HS ?r6_6
 case y6_6=>intro wx hx;have p0:=hx.1.cell 0 rfl;have p1:=hx.1.cell 1 rfl;have p2:=hx.1.cell 2 rfl;have p3:=hx.1.cell 3 rfl;have q0:=hx.2.cell 0 rfl;have q1:=hx.2.cell 1 rfl;have q2:=hx.2.cell 2 rfl;have q3:=hx.2.cell 3 rfl;go_simp;try (with_reducible rfl)
 simp only[Act.put,sA,sB,sC];refine jjaa (v:=?v7_7) aZ7 ?y7_7 HS ?r7_7
 case y7_7=>intro wx hx;have p0:=hx.1.cell 0 rfl;have p1:=hx.1.cell 1 rfl;have p2:=hx.1.cell 2 rfl;have p3:=hx.1.cell 3 rfl;have q0:=hx.2.cell 0 rfl;have q1:=hx.2.cell 1 rfl;have q2:=hx.2.cell 2 rfl;have q3:=hx.2.cell 3 rfl;go_simp;try (with_reducible rfl)
 simp only[Act.put,sA,sB,sC];refine jjaa (v:=?v8_8) aZ8 ?y8_8 HS ?r8_8
 case y8_8=>intro wx hx;have p0:=hx.1.cell 0 rfl;have p1:=hx.1.cell 1 rfl;have p2:=hx.1.cell 2 rfl;have p3:=hx.1.cell 3 rfl;have q0:=hx.2.cell 0 rfl;have q1:=hx.2.cell 1 rfl;have q2:=hx.2.cell 2 rfl;have q3:=hx.2.cell 3 rfl;go_simp;try (with_reducible rfl)
 simp only[Act.put,sA,sB,sC];refine jjaa (v:=?v10_9) aZ10 ?y10_9 HS ?r10_9
 case y10_9=>intro wx hx;have p0:=hx.1.cell 0 rfl;have p1:=hx.1.cell 1 rfl;have p2:=hx.1.cell 2 rfl;have p3:=hx.1.cell 3 rfl;have q0:=hx.2.cell 0 rfl;have q1:=hx.2.cell 1 rfl;have q2:=hx.2.cell 2 rfl;have q3:=hx.2.cell 3 rfl;go_simp;try (with_reducible rfl)
 simp only[Act.put,sA,sB,sC];refine jjaa (v:=?v11_10) aZ11 ?y11_10 HS ?r11_10
 case y11_10=>intro wx hx;have p0:=hx.1.cell 0 rfl;have p1:=hx.1.cell 1 rfl;have p2:=hx.1.cell 2 rfl;have p3:=hx.1.cell 3 rfl;have q0:=hx.2.cell 0 rfl;have q1:=hx.2.cell 1 rfl;have q2:=hx.2.cell 2 rfl;have q3:=hx.2.cell 3 rfl;go_simp;try (with_reducible rfl)
 simp only[Act.put,sA,sB,sC];refine jjaa (v:=?v12_11) aZ12 ?y12_11 HS ?r12_11
 case y12_11=>intro wx hx;have p0:=hx.1.cell 0 rfl;have p1:=hx.1.cell 1 rfl;have p2:=hx.1.cell 2 rfl;have p3:=hx.1.cell 3 rfl;have q0:=hx.2.cell 0 rfl;have q1:=hx.2.cell 1 rfl;have q2:=hx.2.cell 2 rfl;have q3:=hx.2.cell 3 rfl;go_simp;try (with_reducible rfl)
 simp only[Act.put,sA,sB,sC];refine jjaa (v:=?v13_12) aZ13 ?y13_12 HS ?r13_12
 case y13_12=>intro wx hx;have p0:=hx.1.cell 0 rfl;have p1:=hx.1.cell 1 rfl;have p2:=hx.1.cell 2 rfl;have p3:=hx.1.cell 3 rfl;have q0:=hx.2.cell 0 rfl;have q1:=hx.2.cell 1 rfl;have q2:=hx.2.cell 2 rfl;have q3:=hx.2.cell 3 rfl;go_simp;try (with_reducible rfl)
 simp only[Act.put,sA,sB,sC];refine jjaa (v:=?v15_13) aZ15 ?y15_13 HS ?r15_13
 case y15_13=>intro wx hx;have p0:=hx.1.cell 0 rfl;have p1:=hx.1.cell 1 rfl;have p2:=hx.1.cell 2 rfl;have p3:=hx.1.cell 3 rfl;have q0:=hx.2.cell 0 rfl;have q1:=hx.2.cell 1 rfl;have q2:=hx.2.cell 2 rfl;have q3:=hx.2.cell 3 rfl;go_simp;try (with_reducible rfl)
 simp only[Act.put,sA,sB,sC];refine jjaa (v:=?v16_14) aZ16 ?y16_14 HS ?r16_14
 case y16_14=>intro wx hx;have p0:=hx.1.cell 0 rfl;have p1:=hx.1.cell 1 rfl;have p2:=hx.1.cell 2 rfl;have p3:=hx.1.cell 3 rfl;have q0:=hx.2.cell 0 rfl;have q1:=hx.2.cell 1 rfl;have q2:=hx.2.cell 2 rfl;have q3:=hx.2.cell 3 rfl;go_simp;try (with_reducible rfl)
 simp only[Act.put,sA,sB,sC];refine jjaa (v:=?v17_15) aZ17 ?y17_15 HS ?r17_15
 case y17_15=>intro wx hx;have p0:=hx.1.cell 0 rfl;have p1:=hx.1.cell 1 rfl;have p2:=hx.1.cell 2 rfl;have p3:=hx.1.cell 3 rfl;have q0:=hx.2.cell 0 rfl;have q1:=hx.2.cell 1 rfl;have q2:=hx.2.cell 2 rfl;have q3:=hx.2.cell 3 rfl;go_simp;try (with_reducible rfl)
 simp only[Act.put,sA,sB,sC];refine jjaa (v:=?v18_16) aZ18 ?y18_16 HS ?r18_16
 case y18_16=>intro wx hx;have p0:=hx.1.cell 0 rfl;have p1:=hx.1.cell 1 rfl;have p2:=hx.1.cell 2 rfl;have p3:=hx.1.cell 3 rfl;have q0:=hx.2.cell 0 rfl;have q1:=hx.2.cell 1 rfl;have q2:=hx.2.cell 2 rfl;have q3:=hx.2.cell 3 rfl;go_simp;try (with_reducible rfl)
 simp only[Act.put,sA,sB,sC];refine jjab aZ4 (fun K hK=>?_)
 go_simp;refine(jjbe _ _ _).mono ?_
 rintro e w1 ⟨rfl,rfl⟩
 refine hK _ _ (.inr HS) ?_
 try simp only[Act.put,sA,sB,sC]
 refine jjab aZ9 (fun K hK=>?_)
 go_simp;refine(jjbe _ _ _).mono ?_
 rintro e w1 ⟨rfl,rfl⟩
 refine hK _ _ (.inr HS) ?_
 try simp only[Act.put,sA,sB,sC]
 refine jjab aZ14 (fun K hK=>?_)
 go_simp;refine(jjbe _ _ _).mono ?_
 rintro e w1 ⟨rfl,rfl⟩
 refine hK _ _ (.inr HS) ?_
 try simp only[Act.put,sA,sB,sC]
 refine jjab aZ19 (fun K hK=>?_)
 go_simp;refine(jjbe _ _ _).mono ?_
 rintro e w1 ⟨rfl,rfl⟩
 refine hK _ _ (.inr HS) ?_
 try simp only[Act.put,sA,sB,sC]
 refine jjab aZ20 (fun K hK=>?_)
 go_simp;refine hK _ _ (.inr ⟨HS.1.alloc _,HS.2.alloc _⟩) ?_
 try simp only[Act.put,sA,sB,sC]
 refine jjab aZ21 (fun K hK=>?_)
 go_simp;refine(or_any (cmpI a0 b0) (cmpI a1 b1) (cmpI a3 b3) (cmpI a2 b2) _ _ (by go_cell) (by go_cell) (by go_cell) (by go_cell)).mono ?_
 rintro e w1 ⟨rfl,rfl⟩
 refine hK _ _ (.inr ⟨HS.1.alloc _,HS.2.alloc _⟩) ?_
 try simp only[Act.put,sA,sB,sC]
 refine jjab aZ22 (fun K hK=>?_)
 go_simp;refine hK _ _ (.inr ⟨HS.1.alloc _,HS.2.alloc _⟩) (jjad (by kernel_rfl) (NoPanic.normal ?_))
 try simp only[Act.put,sA,sB,sC]
 go_wp2;go_ret;exact⟨jjdu HR.out,HU.alloc HU.size _,HD⟩
theorem flat_sameC {α:Type}[Inhabited α]{k:Nat}{enc:α→List Value}(hk:∀ x,(enc x).length=k)(hk0:0<k)(xs:List α):(Go.Sort.flatK enc k xs.toArray).toList=xs.flatMap enc:=by
 apply List.ext_getElem?
 intro t;by_cases ht:t<xs.length*k
 ·have hq:t / k<xs.length:=(Nat.div_lt_iff_lt_mul hk0).2 ht
  have hm:t % k<k:=Nat.mod_lt _ hk0;have he:t / k*k+t % k=t:=by rw[Nat.mul_comm];exact Nat.div_add_mod t k
  have h2:=jjas hk xs (t / k) hq (t % k) hm;rw[he]at h2;rw[h2];have h1:=Go.Sort.get_flatK enc k xs.toArray t (by simpa using ht);have hs:t<(Go.Sort.flatK enc k xs.toArray).size:=by simpa using ht
  rw[getElem!_pos _ t hs]at h1;rw[List.getElem?_eq_getElem (by simpa using hs),Array.getElem_toList,h1];have e1:xs.toArray[t / k]! =el xs (t / k):=by simp[el,hq]
  rw[e1,List.getElem?_eq_getElem (by rw[hk];exact hm),getElem!_pos _ _ (by rw[hk];exact hm)]
 ·rw [List.getElem?_eq_none (by simp;omega),List.getElem?_eq_none (by rw[jjai hk];omega)]
theorem jjdp :(Go.Proofs.ltOf (cmpS false))=aheadS false:=by
 funext a b
 exact cmpS_neg false a b
theorem swo_aheadC :Go.Sort.SWO (aheadS false):=⟨fun x=>jjc7 x,fun x y z h1 h2=>ahead_lt h1 h2,fun x y z h1 h2=>jjcw h2 h1⟩
theorem total_aheadC (x y:Ar)(h1:aheadS false x y=false)(h2:aheadS false y x=false):x=y:=jjdf h1 h2
theorem cmp_laysC (g n:Nat)(w:World):Go.Proofs.CmpLays Tryz.prog 142 #[] encA 4 (cmpS false) g 0 n w:=by
 intro m os dk hdk x y;exact(inOrderC_any x y _ _ rfl).mono fun e w' ⟨he,hb,hd⟩=>⟨he,later_growC hb hd⟩
theorem own_sortedC {w:World}{base g cap m:Nat}{l r:List Ar}{cur:Array Value}{os:Array Obj}(hb:base≤g)(hh:w.heap[g]? =some (.cells cur 56 (0,0)))(hn:l.length≤cap)(hcap:cap≤maxLen)(hcs:cur.size=cap*4)(hr:r.length=l.length):
  (Go.Proofs.sortWorldK encA 4 w g 0 m r.toArray os).ownsRow base 56 4 (.slice (some ⟨g,0,none⟩) l.length cap) l.length (r.flatMap encA)∧w.grownBy (Go.Proofs.sortWorldK encA 4 w g 0 m r.toArray os) (some g):=by
 have hlt:g<w.heap.size:=lt_of_block hh;have hF:(Go.Sort.flatK encA 4 r.toArray).toList=r.flatMap encA:=flat_sameC jjah (by decide) r;have hFs:(Go.Sort.flatK encA 4 r.toArray).size=l.length*4:=by simp[hr]
 constructor
 ·refine ⟨by rw[jjai jjah,hr],.inr ⟨g,cap,Go.Sort.putCells id 0 (Go.Sort.flatK encA 4 r.toArray) cur,rfl,hb,?_,hn,hcap,?_,?_⟩⟩
  ·simp only[Go.Proofs.sortWorldK,Go.Sort.putRowK,Go.Sort.putRow,Go.Sort.mapBlock,Go.Sort.grow,Go.Sort.ahead]
   rw[Array.getElem?_append_left (by simpa using hlt),Array.getElem?_modify,if_pos rfl,hh];rfl
  ·simp [Go.Sort.putCells,hcs]
  ·rw [← hF]
   apply List.ext_getElem?
   intro t;by_cases ht:t<l.length*4
   ·have hc:t<cur.size:=by rw[hcs];exact Nat.lt_of_lt_of_le ht (Nat.mul_le_mul_right _ hn)
    rw[List.getElem?_take_of_lt ht];simp only[Go.Sort.putCells,Array.getElem?_toList,Array.getElem?_mapIdx,Array.getElem?_eq_getElem hc,Option.map_some];rw[if_pos ⟨Nat.zero_le _,by rw[hFs];omega⟩,Array.getElem?_eq_getElem (by rw[hFs];exact ht)];simp[getElem!_pos,hr,ht]
   ·rw [List.getElem?_eq_none (by simp;omega),List.getElem?_eq_none (by rw[Array.length_toList,hFs];omega)]
 ·refine ⟨rfl,rfl,rfl,by simp[Go.Proofs.sortWorldK,Go.Sort.putRowK,Go.Sort.putRow,Go.Sort.mapBlock,Go.Sort.ahead],fun k hk hne=>?_⟩
  simp only[Go.Proofs.sortWorldK,Go.Sort.putRowK,Go.Sort.putRow,Go.Sort.mapBlock,Go.Sort.grow,Go.Sort.ahead];rw[Array.getElem?_append_left (by simpa using hk),Array.getElem?_modify,if_neg (by intro e;exact hne (by rw[e]))]
theorem sortC_own (base:Nat)(v:Value)(l:List Ar)(w:World)(hv:w.ownsRow base 56 4 v l.length (l.flatMap encA))(hl:l.length<4611686018427387904):
  Calls Tryz.prog 78 #[v,.func (.func 142) #[] #[]] w fun e w'=>e= .returned (.tuple #[])∧w'.ownsRow base 56 4 v (sortL l).length ((sortL l).flatMap encA)∧w.grownBy w' v.ownBlock:=by
 have hv':=hv;have hSL:sortL l=sortS false l:=by rw[jjdk,jjdg]
 rw[hSL];by_cases h0:l.length=0
 ·obtain rfl:l=[]:=List.eq_nil_of_length_eq_zero h0
  obtain⟨a,cap,rfl⟩:=jjbx hv
  exact(AnyF.slices_SortFunc_none Tryz.sortArc a cap _ w).mono fun e w' ⟨he,hw⟩=>⟨he,by subst hw;simpa [sortS] using hv',by subst hw;exact World.grownBy.refl _ _⟩
 ·rcases hv.2 with⟨_,h⟩ | ⟨g,cap,cur,rfl,hb,hh,hn,hcap,hcs,htk⟩
  ·exact absurd h h0
  ·have hlt:g<w.heap.size:=lt_of_block hh
   have eg:∀ args w,(callFunc 142 args).run Tryz.prog w= .ok (.enter 142 args) w:=enters_of Tryz.func142 (by kernel_rfl) rfl;have hH:Go.Sort.HoldsK encA 4 w g 0 l.toArray:=by
    intro j hj;have hF:(Go.Sort.flatK encA 4 l.toArray).toList=l.flatMap encA:=flat_sameC jjah (by decide) l;have hj':j<l.length*4:=by simpa using hj
    have h1:=hv'.cellAt j hj';rw[Nat.zero_add,h1];refine⟨?_,hv'.frozenAt j⟩
    rw[← hF,List.getElem?_eq_getElem (by simpa using hj),Array.getElem_toList,getElem!_pos (Go.Sort.flatK encA 4 l.toArray) j hj];rfl
   have hc:=AnyQ.slices_SortFunc_total Tryz.sortArc 4 Tryz.isAgg56 Tryz.sizeOf56 encA jjah jjch (cmpS false) (by rw[jjdp];exact swo_aheadC) 142 #[] g 0 cap l.toArray w eg (cmp_laysC g _ w) hH hlt (by simpa using hl) (by rw[jjdp];exact total_aheadC);rw[jjdp]at hc;refine Calls.mono (R:=_) hc ?_
   rintro e w' ⟨he,m,os,hw⟩
   subst hw
   have:=own_sortedC (m:=m) (os:=os) (r:=sortS false l) hb hh hn hcap hcs (jjbk false l);exact⟨he,by rw[jjbk];exact this.1,this.2⟩
theorem arcW_take {l:List St}{ps:List Pa}{k:Nat}(h:k<ps.length):arcW l (ps.take (k+1))=arcW l (ps.take k)++(el l (el ps k).1.toNat).2.map (wtA (el ps k).2):=by
 rw[jja0 h,arcW_snoc]
theorem arcW_len {l:List St}{ps:List Pa}(h:∀ q,(el l q).2.length≤400):(arcW l ps).length≤ps.length*400:=by
  induction ps with
  | nil=>simp [arcW]
  | cons p ps ih=>
    have e:arcW l (p::ps)=(el l p.1.toNat).2.map (wtA p.2)++arcW l ps:=rfl;rw[e,List.length_append,List.length_map,List.length_cons]
    have:=h p.1.toNat;omega
theorem slThreeG {v:Value}{n:Nat}(h:∃ a c,v= .slice a n c):∃ a k c,v= .slice a k c:=by obtain⟨a,c,e⟩:=h;exact⟨a,n,c,e⟩
theorem OwnArcs.pushJ {W:World}{base:Nat}{v:Value}{ar:List Ar}(h:OwnArcs W base v ar)(c:Ar)(hl:ar.length≤100000)(hbase:base≤W.heap.size):
  ∃ v' w',(Builtin.append_ #[43,43] 43 #[v,.slice (some ⟨W.heap.size,0,none⟩) 1 1]).run Tryz.prog (W.alloc (.cells #[.int .i64 c.1,.int .i64 c.2.1,.int .i64 c.2.2.1,.int .i64 c.2.2.2] 56))= .ok v' w'∧OwnArcs w' base v' (ar++[c])∧Below base W w'∧(W.alloc (.cells #[.int .i64 c.1,.int .i64 c.2.1,.int .i64 c.2.2.1,.int .i64 c.2.2.2] 56)).grownBy w' v.ownBlock:=by
 obtain⟨i1,hi1,hy0,hy1,hy2⟩:=info_parts infoArc
 obtain⟨v4,w4,r4,ho4,hg4,_⟩:=jjao (P:=Tryz.prog) (w:=W.alloc (.cells (encA c).toArray 56)) jjah (by decide) jjch 43 43 base 56 i1 _ 32 Tryz.underlying43 hi1 hy0 hy1 hy2 rfl _ ar.length (ar.flatMap encA) (World.ownsRow.alloc h _) _ [c] (oneRow (enc:=encA) W c rfl 56) (by simp;unfold maxLen;omega) (by simp;omega) (by simp;omega)
 exact⟨v4,w4,r4,by unfold OwnArcs;rw[List.length_append,List.flatMap_append];exact ho4,((Below.refl _ _).alloc hbase _).grown hg4 (by simp;omega) (jjcv h),hg4⟩
theorem setArcs_any (vm:Value)(m:Mc)(base:Nat)(v:Value)(ps:List Pa)(w:World)(hM:Mach w vm m)(hf:faultM m=0)(h:OwnP w base v ps)(hs:∀ p ∈ ps,SmP m.2.length 1000000000000 p)(hl:ps.length≤100):
  Calls Tryz.prog 108 #[vm,v] w fun e w'=>∃ vr,e= .returned vr∧OwnArcs w' w.heap.size vr (sortL (arcW m.2 ps))∧Below w.heap.size w w':=by
 obtain⟨z,l⟩:=m
 simp only at hs ⊢;obtain⟨vs,rfl,hSt⟩:=hM
 obtain⟨a,cap,rfl,hc⟩:=hSt.get
 simp only at hc ⊢;have HC:=hidP hc;have HAW:Hid (∀ q,q<l.length→∀ x ∈ (el l q).2,0≤x.2.2.1∧x.2.2.1≤1000000000):=fun q hq x hx=>by
  have h9:=jjb0 hf hq hx;exact⟨h9.1,h9.2.1⟩
 have h400:∀ q,(el l q).2.length≤400:=fun q=>by
  by_cases hq:q<l.length
  ·exact (jja7 hf q hq).2.1
  ·rw [show el l q=default by simp[el,List.getElem?_eq_none (Nat.le_of_not_lt hq)]]
   exact Nat.zero_le _
 have H4:=hidP h400;have HP:=hidP h;have HEL:Hid (∀ k,k<ps.length→SmP l.length 1000000000000 (el ps k)):=fun k hk=>hs _ (jjac hk)
 have HST:Hid (∀ k,k<ps.length→arcW l (ps.take (k+1))=arcW l (ps.take k)++(el l (el ps k).1.toNat).2.map (wtA (el ps k).2)):=fun k hk=>arcW_take hk
 have HLN:Hid (∀ k,(arcW l (ps.take k)).length≤40000):=fun k=>by
  have h1:=arcW_len (ps:=ps.take k) h400;have h2:(ps.take k).length≤100:=by rw[List.length_take];omega
  show _≤_;omega
 have HALL:Hid (arcW l (ps.take ps.length)=arcW l ps):=by show _=_;rw[List.take_length]
 obtain⟨av,cv,rfl⟩:=h.sl
 have HB0:Hid (Below w.heap.size w (w.alloc (.cells #[.int .i64 z,.slice a l.length cap] 24))):=(Below.refl _ _).alloc (Nat.le_refl _) _;have HK0:=hidP (Blk.made w #[.int .i64 z,.slice a l.length cap] 24);have HA0:Hid (OwnArcs (w.alloc (.cells #[.int .i64 z,.slice a l.length cap] 24)) w.heap.size (.slice none 0 0) []):=OwnArcs.nil _ _;have h60:=(jjae hf).1;clear h hs hc hSt hf h400
 obtain⟨n,hn⟩:∃ n,ps.length=n:=⟨_,rfl⟩
 rw[hn]at hl HST HALL HEL ⊢;have HN:=hidP hn;clear hn;obtain⟨nl,hnl⟩:∃ nl,l.length=nl:=⟨_,rfl⟩
 rw[hnl]at HC HAW HEL HB0 HK0 HA0 h60 ⊢;clear hnl;go_enter Tryz.func108,Tryz.ntmps108;go_wp2;go_loopw [5,12] (fun s5 i wr=>∃ (k:Nat) (va:Value),k≤n∧va=s5∧i= .int .i64 k∧Hid (OwnArcs wr w.heap.size va (arcW l (ps.take k)))∧Hid (Below w.heap.size w wr)∧Hid (Blk wr w.heap.size #[.int .i64 z,.slice a nl cap] 24)) (fun _ i _=>n-(intOf i).toNat)
 case atStart=>exact ⟨0,_,Nat.zero_le _,rfl,rfl,HA0,HB0,HK0⟩
 case round=>
  clear HB0 HK0 HA0;obtain⟨k,va,hk,rfl,rfl,hA,hW,hK⟩:=hrel
  obtain⟨w1,hw1⟩:∃ w1,w1=wr:=⟨_,rfl⟩
  subst hw1;by_cases hlt:k<n
  ·have k0:(0:Int)≤(k:Int):=Int.natCast_nonneg _
   have k1:(k:Int)<(n:Int):=by omega
   obtain⟨b,off,hab,hbl,c0,c1⟩:=HP.out.cell (j:=k) (by rw[HN.out];exact hlt)
   subst hab;have c0:=(hW.out.cell (p:=⟨b,off+k*2,none⟩) hbl).trans c0;have c1:=(hW.out.cell (p:=⟨b,off+k*2+1,none⟩) hbl).trans c1;have hsm:=HEL.out k hlt;have HSK:=hidP (HST.out k hlt);have hLk:=HLN.out k;have hLk1:=HLN.out (k+1);obtain⟨pk,hpk⟩:∃ pk,el ps k=pk:=⟨_,rfl⟩
   rw[hpk]at c0 c1 hsm HSK;clear hpk;obtain⟨p0,p1⟩:=pk
   simp only[SmP]at hsm c0 c1 HSK;obtain⟨t,rfl⟩:∃ t:Nat,p0=(t:Int):=⟨p0.toNat,by omega⟩
   have t0:(0:Int)≤(t:Int):=Int.natCast_nonneg _;have t1:(t:Int)<(nl:Int):=hsm.2.1;obtain⟨b2,off2,vx,ha2,hb2,_,x1,hXA⟩:=HC.out t (by omega)
   subst ha2;have x1:=(hW.out.cell (p:=⟨b2,off2+t*2+1,none⟩) hb2).trans x1;have HXW:=hidP (HAW.out t (by omega));have hX4:=H4.out t;simp only[Int.toNat_natCast]at HSK;obtain⟨X,hX⟩:∃ X,(el l t).2=X:=⟨_,rfl⟩
   rw[hX]at hXA HXW HSK hX4;clear hX;obtain⟨ax,cx,hvx⟩:=hXA.sl
   subst hvx;have HXA:=hidP hXA;have hlW:=hW.out.size;have hlK:=hK.out.lt;have hB1:=(Below.refl w1.heap.size w1).alloc (Nat.le_refl _) (.cells #[.int .i64 (t:Int),.int .i64 p1] 92);have W1:=hidP (hW.out.trans (hB1.mono hW.out.size));have K1:=hidP (hK.out.alloc (.cells #[.int .i64 (t:Int),.int .i64 p1] 92));have A1:=hidP (hA.out.later hB1)
   have P1:=hidP (Blk.made w1 #[.int .i64 (t:Int),.int .i64 p1] 92);have d1:=hK.out.cell 1 (v:= .slice (some ⟨b2,off2,none⟩) nl cap) rfl;have hbw:b2<w1.heap.size:=by omega
   have hbw3:b<w1.heap.size:=by omega
   have hPW:w.heap.size≤w1.heap.size:=hlW;obtain⟨nx,hnx⟩:∃ nx,X.length=nx:=⟨_,rfl⟩
   rw[hnx]at HXA x1 hX4;have HNX:=hidP hnx;clear hB1 hA hW hXA hnx;obtain⟨A0,hA0⟩:∃ A0,arcW l (ps.take k)=A0:=⟨_,rfl⟩
   rw[hA0]at A1 HSK hLk;clear hA0;go_wp2;clear d1 hlK c0 c1 x1 hK;obtain⟨Pb,hPb⟩:∃ Pb,Pb=w1.heap.size:=⟨_,rfl⟩
   rw[← hPb]at P1 hPW ⊢;have HPB:=hidP hPb;have hMP:w.heap.size≠Pb:=by have:=K1.out.lt;have h9:=K1.out;intro e;rw[← e]at P1;unfold Hid at P1 K1;unfold Blk at P1 h9;rw[h9]at P1;exact absurd P1 (by simp)
   clear hPb;go_loopw [5,24] (fun s5 i wr=>∃ (j:Nat) (va:Value),j≤nx∧va=s5∧i= .int .i64 j∧Hid (OwnArcs wr w.heap.size va (A0++(X.take j).map (wtA p1)))∧Hid (Below w.heap.size w wr)∧Hid (Blk wr w.heap.size #[.int .i64 z,.slice (some ⟨b2,off2,none⟩) nl cap] 24)∧Hid (Blk wr Pb #[.int .i64 (t:Int),.int .i64 p1] 92)) (fun _ i _=>nx-(intOf i).toNat)
   case atStart=>exact ⟨0,_,Nat.zero_le _,rfl,rfl,by simpa using A1,W1,K1,P1⟩
   case round=>
    clear A1 W1 K1 P1;obtain⟨j,va2,hj,rfl,rfl,hA,hW,hK,hP⟩:=hrel
    obtain⟨w2,hw2⟩:∃ w2,w2=wr:=⟨_,rfl⟩
    subst hw2;by_cases hjl:j<nx
    ·have j0:(0:Int)≤(j:Int):=Int.natCast_nonneg _
     have j1:(j:Int)<(nx:Int):=by omega
     obtain⟨b3,off3,hb3,hb3l,e0,e1,e2,e3⟩:=jjeg HXA.out (j:=j) (by rw[HNX.out];exact hjl)
     subst hb3;have e0:=(hW.out.cell (p:=⟨b3,off3+j*4,none⟩) hb3l).trans e0;have e1:=(hW.out.cell (p:=⟨b3,off3+j*4+1,none⟩) hb3l).trans e1;have e2:=(hW.out.cell (p:=⟨b3,off3+j*4+2,none⟩) hb3l).trans e2;have e3:=(hW.out.cell (p:=⟨b3,off3+j*4+3,none⟩) hb3l).trans e3;have hxw:=HXW.out (el X j) (jjac (by rw[HNX.out];exact hjl))
     have HTK:Hid ((X.take (j+1)).map (wtA p1)=(X.take j).map (wtA p1)++[wtA p1 (el X j)]):=by show _=_;rw[jja0 (by rw[HNX.out];exact hjl)];simp
     obtain⟨x,hx⟩:∃ x,el X j=x:=⟨_,rfl⟩
     rw[hx]at e0 e1 e2 e3 hxw HTK;clear hx;obtain⟨q0,q1,q2,q3⟩:=x
     simp only[wtA]at e0 e1 e2 e3 hxw HTK;have hwr:IntKind.i64.wrap (q2+p1)=q2+p1:=wrapI (by omega) (by omega);have hp1:=hP.out.cell 1 (v:= .int .i64 p1) rfl;have hsW:=hW.out.size;have hPl:=hP.out.lt;have hb3w:b3<w2.heap.size:=by omega
     have hA2:=(Below.refl w2.heap.size w2).alloc (Nat.le_refl _) (.cells #[.int .i64 q0,.int .i64 q1,.int .i64 (q2+p1),.int .i64 q3] 56);have W3:=hidP (hW.out.trans (hA2.mono hW.out.size));have K3:=hidP (hK.out.alloc (.cells #[.int .i64 q0,.int .i64 q1,.int .i64 (q2+p1),.int .i64 q3] 56));have P3:=hidP (hP.out.alloc (.cells #[.int .i64 q0,.int .i64 q1,.int .i64 (q2+p1),.int .i64 q3] 56))
     have A3:=hidP (hA.out.later hA2);have hlen:(A0++(X.take j).map (wtA p1)).length≤100000:=by rw[List.length_append,List.length_map,List.length_take];omega
     have hs3:(w2.alloc (.cells #[.int .i64 q0,.int .i64 q1,.int .i64 (q2+p1),.int .i64 q3] 56)).heap.size=w2.heap.size+1:=by simp
     obtain⟨v4,w4,r4,o4,b4,g4⟩:=A3.out.pushJ (q0,q1,q2+p1,q3) hlen (by rw[hs3];omega)
     rw[hs3]at r4;have hA4:=(Below.refl _ (w2.alloc (.cells #[.int .i64 q0,.int .i64 q1,.int .i64 (q2+p1),.int .i64 q3] 56))).alloc (Nat.le_refl _) (.cells #[.int .i64 q0,.int .i64 q1,.int .i64 (q2+p1),.int .i64 q3] 56);have K4:=hidP ((K3.out.below hA4 K3.out.lt).grown g4 (jjak (A3.out.later hA4) (K3.out.below hA4 K3.out.lt) (by decide)))
     have P4:=hidP ((P3.out.below hA4 P3.out.lt).grown g4 (jjak (A3.out.later hA4) (P3.out.below hA4 P3.out.lt) (by decide)));have W4:=hidP (W3.out.trans b4);have A4:=hidP o4;rw[List.append_assoc,← HTK.out]at A4;have HR4:=hidP r4;obtain⟨a4,n4,c4,hv4⟩:=slThreeG o4.sl
     subst hv4;clear r4 o4 b4 g4 hA2 hA4 W3 K3 P3 A3 hlen hs3 hA hW hK;go_wp2_with (first | (at_builtin;refine wpListAppendRun rfl _ _ 43 rfl rfl rfl HR4.out ?_));go_roundw
     case rel=>exact ⟨j+1,_,by omega,rfl,by go_num,A4,W4,K4,P4⟩
     case measure=>simp [intOf];omega
    ·have hj1:¬ (j:Int)<(nx:Int):=by omega
     obtain rfl:j=nx:=by omega
     have A4:Hid (OwnArcs w2 w.heap.size va2 (arcW l (ps.take (k+1)))):=by
      show OwnArcs _ _ _ _;rw[HSK.out];have h9:=hA.out;rw[← HNX.out,List.take_length]at h9;exact h9
     clear hA;go_wp2;go_roundw
     case rel=>exact ⟨k+1,_,by omega,rfl,by go_num,A4,hW,hK⟩
     case measure=>simp [intOf];omega
  ·have hk1:¬ (k:Int)<(n:Int):=by omega
   obtain rfl:k=n:=by omega
   have hLk:=HLN.out k;rw[HALL.out]at hA hLk;have HSO:=hidP (sortC_own w.heap.size va (arcW l ps) w1 hA.out (by omega));obtain⟨a4,n4,c4,hv4⟩:=slThreeG hA.out.sl
   have HGE:=hidP (jjcv hA.out);subst hv4;go_wp2_with (first
    | (go_at_call 78;(with_reducible refine HSO.out.mono ?_);rintro e w2 ⟨rfl,ho2,hg2⟩;have O2:Hid (OwnArcs w2 w.heap.size (.slice a4 n4 c4) (sortL (arcW l ps))):=ho2;have W2:=hidP (hW.out.grown hg2 hW.out.size HGE.out);clear ho2 hg2))
   go_ret;exact⟨_,rfl,O2.out,W2.out⟩
end Go.Proofs.YtppkiejhhmahcaaGreatDoor.Wt
