/- Facts, joined. -/
import Derived.Test.YtppkiejhhmahcaaGreatDoorSai
set_option linter.unusedSimpArgs false
set_option linter.unusedVariables false
set_option maxHeartbeats 1000000
set_option maxRecDepth 100000
namespace Go.Proofs.YtppkiejhhmahcaaGreatDoor.Wt
open ChangeShapes WideShapes ChangeAt RowKit Pl
theorem jjbe (a b:Int)(w:World):Calls Tryz.prog 128 #[.int .i64 a,.int .i64 b] w fun e w'=>e= .returned (.int .i64 (cmpI a b))∧w=w':=by
 unfold cmpI;by_cases h1:a<b
 ·go_enter Tryz.func128,Tryz.ntmps128
  go_wp2_with (first | (go_at_call 153;go_in));go_ret;exact⟨rfl,rfl⟩
 ·by_cases h2:b<a
  ·go_enter Tryz.func128,Tryz.ntmps128
   go_wp2_with (first | (go_at_call 153;go_in));go_ret;exact⟨rfl,rfl⟩
  ·go_enter Tryz.func128,Tryz.ntmps128
   go_wp2_with (first | (go_at_call 153;go_in));go_ret;exact⟨rfl,rfl⟩
theorem or_any (c0 c1 c2 c3:Int)(b:Nat)(w:World)(h0:w.cell? ⟨b,0,none⟩=some (.int .i64 c0))(h1:w.cell? ⟨b,1,none⟩=some (.int .i64 c1))(h2:w.cell? ⟨b,2,none⟩=some (.int .i64 c2))(h3:w.cell? ⟨b,3,none⟩=some (.int .i64 c3)):
  Calls Tryz.prog 167 #[.slice (some ⟨b,0,none⟩) 4 4] w fun e w'=>e= .returned (.int .i64 (orI c0 c1 c2 c3))∧w=w':=by
 unfold orI;by_cases e0:c0=0
 ·by_cases e1:c1=0
  ·by_cases e2:c2=0
   ·by_cases e3:c3=0
    ·subst e0 e1 e2 e3
     go_enter Tryz.func167,Tryz.ntmps167;go_wp2;refine wp_loop_rounds 5 ?_;rw[rounds_succ]
     go_wp2;rw[rounds_succ];go_wp2;rw[rounds_succ];go_wp2;rw[rounds_succ];go_wp2;rw[rounds_succ];go_wp2;go_ret;exact⟨rfl,rfl⟩
    ·have hne:(c3 !=0)=true:=by simpa using e3
     subst e0 e1 e2;go_enter Tryz.func167,Tryz.ntmps167;go_wp2;refine wp_loop_rounds 5 ?_;rw[rounds_succ]
     go_wp2;rw[rounds_succ];go_wp2;rw[rounds_succ];go_wp2;rw[rounds_succ];go_wp2;go_ret;exact⟨rfl,rfl⟩
   ·have hne:(c2 !=0)=true:=by simpa using e2
    subst e0 e1;go_enter Tryz.func167,Tryz.ntmps167;go_wp2;refine wp_loop_rounds 5 ?_;rw[rounds_succ]
    go_wp2;rw[rounds_succ];go_wp2;rw[rounds_succ];go_wp2;go_ret;exact⟨jjdu (by simp[e2]),rfl⟩
  ·have hne:(c1 !=0)=true:=by simpa using e1
   subst e0;go_enter Tryz.func167,Tryz.ntmps167;go_wp2;refine wp_loop_rounds 5 ?_;rw[rounds_succ]
   go_wp2;rw[rounds_succ];go_wp2;go_ret;exact⟨jjdu (by simp[e1]),rfl⟩
 ·have hne:(c0 !=0)=true:=by simpa using e0
  go_enter Tryz.func167,Tryz.ntmps167;go_wp2;refine wp_loop_rounds 5 ?_;rw[rounds_succ]
  go_wp2;go_ret;exact⟨jjdu (by simp[e0]),rfl⟩
def HeldI (B:Nat)(a0 a1 a2 a3 b0 b1 b2 b3:Int)(w:World):Prop:=
 Blk w B #[.int .i64 a0,.int .i64 a1,.int .i64 a2,.int .i64 a3] 56∧Blk w (B+1) #[.int .i64 b0,.int .i64 b1,.int .i64 b2,.int .i64 b3] 56
theorem jjft (a b:Ar)(w:World)(r:Int)(hr:orI (cmpI a.1 b.1) (cmpI a.2.1 b.2.1) (cmpI a.2.2.2 b.2.2.2) (cmpI a.2.2.1 b.2.2.1)=r):
  Calls Tryz.prog 140 #[.agg #[.int .i64 a.1,.int .i64 a.2.1,.int .i64 a.2.2.1,.int .i64 a.2.2.2],.agg #[.int .i64 b.1,.int .i64 b.2.1,.int .i64 b.2.2.1,.int .i64 b.2.2.2]] w fun e w'=>e= .returned (.int .i64 r)∧Below w.heap.size w w':=by
 obtain⟨a0,a1,a2,a3⟩:=a
 obtain⟨b0,b1,b2,b3⟩:=b
 simp only at hr ⊢;have HR:Hid (orI (cmpI a0 b0) (cmpI a1 b1) (cmpI a3 b3) (cmpI a2 b2)=r):=hr;clear hr;go_enter Tryz.func140,Tryz.ntmps140;go_wp2;refine jjaf (HeldI w.heap.size a0 a1 a2 a3 b0 b1 b2 b3) 1000 (by kernel_rfl) ?_
 have hk:=Blk.made (w.alloc (.cells #[.int .i64 a0,.int .i64 a1,.int .i64 a2,.int .i64 a3] 56)) #[.int .i64 b0,.int .i64 b1,.int .i64 b2,.int .i64 b3] 56;simp only[World.size_alloc]at hk
 have HS:HeldI w.heap.size a0 a1 a2 a3 b0 b1 b2 b3 ((w.alloc (.cells #[.int .i64 a0,.int .i64 a1,.int .i64 a2,.int .i64 a3] 56)).alloc (.cells #[.int .i64 b0,.int .i64 b1,.int .i64 b2,.int .i64 b3] 56)).drew:=⟨((Blk.made w _ _).alloc _).drew,hk.drew⟩
 have HU:Below w.heap.size w ((w.alloc (.cells #[.int .i64 a0,.int .i64 a1,.int .i64 a2,.int .i64 a3] 56)).alloc (.cells #[.int .i64 b0,.int .i64 b1,.int .i64 b2,.int .i64 b3] 56)).drew:=Below.drew (by go_grown);clear hk;generalize hw0:((w.alloc (.cells #[.int .i64 a0,.int .i64 a1,.int .i64 a2,.int .i64 a3] 56)).alloc (.cells #[.int .i64 b0,.int .i64 b1,.int .i64 b2,.int .i64 b3] 56)).drew=w0 at *
 clear hw0;refine jjaa (v:=?v0_1) aZ0 ?y0_1 HS ?r0_1
 case y0_1=>intro wx hx;have p0:=hx.1.cell 0 rfl;have p1:=hx.1.cell 1 rfl;have p2:=hx.1.cell 2 rfl;have p3:=hx.1.cell 3 rfl;have q0:=hx.2.cell 0 rfl;have q1:=hx.2.cell 1 rfl;have q2:=hx.2.cell 2 rfl;have q3:=hx.2.cell 3 rfl;go_simp;try (with_reducible rfl)
 simp only[Act.put,sA,sB,sC];refine jjaa (v:=?v1_2) aZ1 ?y1_2 HS ?r1_2
 case y1_2=>intro wx hx;have p0:=hx.1.cell 0 rfl;have p1:=hx.1.cell 1 rfl;have p2:=hx.1.cell 2 rfl;have p3:=hx.1.cell 3 rfl;have q0:=hx.2.cell 0 rfl;have q1:=hx.2.cell 1 rfl;have q2:=hx.2.cell 2 rfl;have q3:=hx.2.cell 3 rfl;go_simp;try (with_reducible rfl)
 simp only[Act.put,sA,sB,sC];refine jjaa (v:=?v2_3) aZ2 ?y2_3 HS ?r2_3
 case y2_3=>intro wx hx;have p0:=hx.1.cell 0 rfl;have p1:=hx.1.cell 1 rfl;have p2:=hx.1.cell 2 rfl;have p3:=hx.1.cell 3 rfl;have q0:=hx.2.cell 0 rfl;have q1:=hx.2.cell 1 rfl;have q2:=hx.2.cell 2 rfl;have q3:=hx.2.cell 3 rfl;go_simp;try (with_reducible rfl)
 simp only[Act.put,sA,sB,sC];refine jjaa (v:=?v3_4) aZ3 ?y3_4 HS ?r3_4
 case y3_4=>intro wx hx;have p0:=hx.1.cell 0 rfl;have p1:=hx.1.cell 1 rfl;have p2:=hx.1.cell 2 rfl;have p3:=hx.1.cell 3 rfl;have q0:=hx.2.cell 0 rfl;have q1:=hx.2.cell 1 rfl;have q2:=hx.2.cell 2 rfl;have q3:=hx.2.cell 3 rfl;go_simp;try (with_reducible rfl)
 simp only[Act.put,sA,sB,sC];refine jjaa (v:=?v5_5) aZ5 ?y5_5 HS ?r5_5
 case y5_5=>intro wx hx;have p0:=hx.1.cell 0 rfl;have p1:=hx.1.cell 1 rfl;have p2:=hx.1.cell 2 rfl;have p3:=hx.1.cell 3 rfl;have q0:=hx.2.cell 0 rfl;have q1:=hx.2.cell 1 rfl;have q2:=hx.2.cell 2 rfl;have q3:=hx.2.cell 3 rfl;go_simp;try (with_reducible rfl)
 simp only[Act.put,sA,sB,sC];refine jjaa (v:=?v6_6) aZ6 ?y6_6 HS ?r6_6
 case y6_6=>intro wx hx;have p0:=hx.1.cell 0 rfl;have p1:=hx.1.cell 1 rfl;have p2:=hx.1.cell 2 rfl;have p3:=hx.1.cell 3 rfl;have q0:=hx.2.cell 0 rfl;have q1:=hx.2.cell 1 rfl;have q2:=hx.2.cell 2 rfl;have q3:=hx.2.cell 3 rfl;go_simp;try (with_reducible rfl)
 simp only[Act.put,sA,sB,sC];refine jjaa (v:=?v7_7) aZ7 ?y7_7 HS ?r7_7
 case y7_7=>intro wx hx;have p0:=hx.1.cell 0 rfl;have p1:=hx.1.cell 1 rfl;have p2:=hx.1.cell 2 rfl;have p3:=hx.1.cell 3 rfl;have q0:=hx.2.cell 0 rfl;have q1:=hx.2.cell 1 rfl;have q2:=hx.2.cell 2 rfl;have q3:=hx.2.cell 3 rfl;go_simp;try (with_reducible rfl)
 simp only[Act.put,sA,sB,sC];refine jjaa (v:=?v8_8) aZ8 ?y8_8 HS ?r8_8
 case y8_8=>intro wx hx;have p0:=hx.1.cell 0 rfl;have p1:=hx.1.cell 1 rfl;have p2:=hx.1.cell 2 rfl;have p3:=hx.1.cell 3 rfl;have q0:=hx.2.cell 0 rfl;have q1:=hx.2.cell 1 rfl;have q2:=hx.2.cell 2 rfl;have q3:=hx.2.cell 3 rfl;go_simp;try (with_reducible rfl)
 simp only[Act.put,sA,sB,sC];refine jjaa (v:=?v10_9) aZ10 ?y10_9 HS ?r10_9
 case y10_9=>intro wx hx;have p0:=hx.1.cell 0 rfl;have p1:=hx.1.cell 1 rfl;have p2:=hx.1.cell 2 rfl;have p3:=hx.1.cell 3 rfl;have q0:=hx.2.cell 0 rfl;have q1:=hx.2.cell 1 rfl;have q2:=hx.2.cell 2 rfl;have q3:=hx.2.cell 3 rfl;go_simp;try (with_reducible rfl)
 simp only[Act.put,sA,sB,sC];refine jjaa (v:=?v11_10) aZ11 ?y11_10 HS ?r11_10
 case y11_10=>intro wx hx;have p0:=hx.1.cell 0 rfl;have p1:=hx.1.cell 1 rfl;have p2:=hx.1.cell 2 rfl;have p3:=hx.1.cell 3 rfl;have q0:=hx.2.cell 0 rfl;have q1:=hx.2.cell 1 rfl;have q2:=hx.2.cell 2 rfl;have q3:=hx.2.cell 3 rfl;go_simp;try (with_reducible rfl)
 simp only[Act.put,sA,sB,sC];refine jjaa (v:=?v12_11) aZ12 ?y12_11 HS ?r12_11
 case y12_11=>intro wx hx;have p0:=hx.1.cell 0 rfl;have p1:=hx.1.cell 1 rfl;have p2:=hx.1.cell 2 rfl;have p3:=hx.1.cell 3 rfl;have q0:=hx.2.cell 0 rfl;have q1:=hx.2.cell 1 rfl;have q2:=hx.2.cell 2 rfl;have q3:=hx.2.cell 3 rfl;go_simp;try (with_reducible rfl)
 simp only[Act.put,sA,sB,sC];refine jjaa (v:=?v13_12) aZ13 ?y13_12 HS ?r13_12
 case y13_12=>intro wx hx;have p0:=hx.1.cell 0 rfl;have p1:=hx.1.cell 1 rfl;have p2:=hx.1.cell 2 rfl;have p3:=hx.1.cell 3 rfl;have q0:=hx.2.cell 0 rfl;have q1:=hx.2.cell 1 rfl;have q2:=hx.2.cell 2 rfl;have q3:=hx.2.cell 3 rfl;go_simp;try (with_reducible rfl)
 simp only[Act.put,sA,sB,sC];refine jjaa (v:=?v15_13) aZ15 ?y15_13 HS ?r15_13
 case y15_13=>intro wx hx;have p0:=hx.1.cell 0 rfl;have p1:=hx.1.cell 1 rfl;have p2:=hx.1.cell 2 rfl;have p3:=hx.1.cell 3 rfl;have q0:=hx.2.cell 0 rfl;have q1:=hx.2.cell 1 rfl;have q2:=hx.2.cell 2 rfl;have q3:=hx.2.cell 3 rfl;go_simp;try (with_reducible rfl)
 simp only[Act.put,sA,sB,sC];refine jjaa (v:=?v16_14) aZ16 ?y16_14 HS ?r16_14
 case y16_14=>intro wx hx;have p0:=hx.1.cell 0 rfl;have p1:=hx.1.cell 1 rfl;have p2:=hx.1.cell 2 rfl;have p3:=hx.1.cell 3 rfl;have q0:=hx.2.cell 0 rfl;have q1:=hx.2.cell 1 rfl;have q2:=hx.2.cell 2 rfl;have q3:=hx.2.cell 3 rfl;go_simp;try (with_reducible rfl)
 simp only[Act.put,sA,sB,sC];refine jjaa (v:=?v17_15) aZ17 ?y17_15 HS ?r17_15
 case y17_15=>intro wx hx;have p0:=hx.1.cell 0 rfl;have p1:=hx.1.cell 1 rfl;have p2:=hx.1.cell 2 rfl;have p3:=hx.1.cell 3 rfl;have q0:=hx.2.cell 0 rfl;have q1:=hx.2.cell 1 rfl;have q2:=hx.2.cell 2 rfl;have q3:=hx.2.cell 3 rfl;go_simp;try (with_reducible rfl)
 simp only[Act.put,sA,sB,sC];refine jjaa (v:=?v18_16) aZ18 ?y18_16 HS ?r18_16
 case y18_16=>intro wx hx;have p0:=hx.1.cell 0 rfl;have p1:=hx.1.cell 1 rfl;have p2:=hx.1.cell 2 rfl;have p3:=hx.1.cell 3 rfl;have q0:=hx.2.cell 0 rfl;have q1:=hx.2.cell 1 rfl;have q2:=hx.2.cell 2 rfl;have q3:=hx.2.cell 3 rfl;go_simp;try (with_reducible rfl)
 simp only[Act.put,sA,sB,sC];refine jjab aZ4 (fun K hK=>?_)
 go_simp;refine(jjbe _ _ _).mono ?_
 rintro e w1 ⟨rfl,rfl⟩
 refine hK _ _ (.inr HS) ?_
 try simp only[Act.put,sA,sB,sC]
 refine jjab aZ9 (fun K hK=>?_)
 go_simp;refine(jjbe _ _ _).mono ?_
 rintro e w1 ⟨rfl,rfl⟩
 refine hK _ _ (.inr HS) ?_
 try simp only[Act.put,sA,sB,sC]
 refine jjab aZ14 (fun K hK=>?_)
 go_simp;refine(jjbe _ _ _).mono ?_
 rintro e w1 ⟨rfl,rfl⟩
 refine hK _ _ (.inr HS) ?_
 try simp only[Act.put,sA,sB,sC]
 refine jjab aZ19 (fun K hK=>?_)
 go_simp;refine(jjbe _ _ _).mono ?_
 rintro e w1 ⟨rfl,rfl⟩
 refine hK _ _ (.inr HS) ?_
 try simp only[Act.put,sA,sB,sC]
 refine jjab aZ20 (fun K hK=>?_)
 go_simp;refine hK _ _ (.inr ⟨HS.1.alloc _,HS.2.alloc _⟩) ?_
 try simp only[Act.put,sA,sB,sC]
 refine jjab aZ21 (fun K hK=>?_)
 go_simp;refine(or_any (cmpI a0 b0) (cmpI a1 b1) (cmpI a3 b3) (cmpI a2 b2) _ _ (by go_cell) (by go_cell) (by go_cell) (by go_cell)).mono ?_
 rintro e w1 ⟨rfl,rfl⟩
 refine hK _ _ (.inr ⟨HS.1.alloc _,HS.2.alloc _⟩) ?_
 try simp only[Act.put,sA,sB,sC]
 refine jjab aZ22 (fun K hK=>?_)
 go_simp;refine hK _ _ (.inr ⟨HS.1.alloc _,HS.2.alloc _⟩) (jjad (by kernel_rfl) (NoPanic.normal ?_))
 try simp only[Act.put,sA,sB,sC]
 go_wp2;go_ret;exact⟨jjdu HR.out,HU.alloc HU.size _⟩
end Go.Proofs.YtppkiejhhmahcaaGreatDoor.Wt
