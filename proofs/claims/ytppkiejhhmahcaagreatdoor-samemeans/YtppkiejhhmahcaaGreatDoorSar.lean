/- Facts, joined. -/
import Derived.Test.YtppkiejhhmahcaaGreatDoorSaq
import Derived.Test.YtppkiejhhmahcaaGreatDoorSak
import Derived.Sort.Grow
import Derived.Deep.DeepCutAuto
import Derived.Deep.DeepFit
set_option linter.unusedSimpArgs false
set_option linter.unusedVariables false
set_option maxHeartbeats 3200000
set_option maxRecDepth 100000
namespace Go.Proofs.YtppkiejhhmahcaaGreatDoor.Wt
open ChangeShapes WideShapes ChangeAt RowKit Pl
theorem later_grow {W w':World}(hb:Below W.heap.size W w')(hd:W.drawn≤w'.drawn):∃ q os',w'=Go.Sort.grow (W.drewN q) os':=by
 refine⟨w'.drawn-W.drawn,w'.heap.extract W.heap.size w'.heap.size,?_⟩
 obtain⟨h1,h2,h3,h4,h5⟩:=hb
 obtain⟨hp,tp,dr,os,ou⟩:=w'
 simp only at *;have eh:hp=W.heap++hp.extract W.heap.size hp.size:=by
  apply Array.ext_getElem?
  intro i;rw[Array.getElem?_append];split
  ·rename_i hi;exact h5 i hi
  ·rename_i hi
   rw[Array.getElem?_extract];split
   ·congr 1;omega
   ·rw [Array.getElem?_eq_none];omega
 simp only[Go.Sort.grow,World.drewN];rw[← eh,h1,h2,h3];congr 1
 omega
theorem jjap (a b c d:Int)(w:World):Calls Tryz.prog 127 #[.agg #[.int .i64 a,.int .i64 b,.int .i64 c,.int .i64 d]] w fun e w'=>
  e= .returned (.agg #[.int .i64 a,.int .i64 b,.int .i64 d,.int .i64 c])∧w'.heap.size=w.heap.size+2∧Below w.heap.size w w'∧w'.drawn=w.drawn:=by
 go_enter Tryz.func127,Tryz.ntmps127;go_wp2;exact bodyPost_ret (v:= .agg #[.int .i64 a,.int .i64 b,.int .i64 d,.int .i64 c]) (by simp[results,Tryz.results127,go_sem]) rfl ⟨rfl,by simp,by go_grown,rfl⟩
structure Q3 (W w:World)(x y:Ar):Prop where
 size:W.heap.size+2≤w.heap.size
 bx:Blk w W.heap.size #[.int .i64 x.1,.int .i64 x.2.1,.int .i64 x.2.2.1,.int .i64 x.2.2.2] 56
 by':Blk w (W.heap.size+1) #[.int .i64 y.1,.int .i64 y.2.1,.int .i64 y.2.2.1,.int .i64 y.2.2.2] 56
 below:Below W.heap.size W w
 drawn:W.drawn≤w.drawn
theorem Q3.alloc {W w:World}{x y:Ar}(h:Q3 W w x y)(o:Obj):Q3 W (w.alloc o) x y:=
 ⟨by rw[World.size_alloc];have:=h.size;omega,h.bx.alloc _,h.by'.alloc _,h.below.alloc (by have:=h.size;omega) _,h.drawn⟩
theorem Q3.next {W w w':World}{x y:Ar}(h:Q3 W w x y)(hb:Below w.heap.size w w')(hd:w'.drawn=w.drawn):Q3 W w' x y:=
 ⟨Nat.le_trans h.size hb.size,h.bx.below hb h.bx.lt,h.by'.below hb h.by'.lt,h.below.trans (hb.mono (by have:=h.size;omega)),by rw[hd];exact h.drawn⟩
theorem Q3.set {W w:World}{x y:Ar}(h:Q3 W w x y){a:Addr}(ha:W.heap.size+2≤a.block)(v:Value):Q3 W (w.setCell a v) x y:=
 ⟨by have:=h.size;simp[World.setCell];omega,h.bx.setO _ _ (by omega),h.by'.setO _ _ (by omega),h.below.setCell (by omega) _,h.drawn⟩
def NewR (W w:World)(b:Nat):Prop:=W.heap.size+2≤b∧Blk w b #[.int .i64 0,.int .i64 0,.int .i64 0,.int .i64 0] 60
theorem NewR.alloc {W w:World}{b:Nat}(h:NewR W w b)(o:Obj):NewR W (w.alloc o) b:=⟨h.1,h.2.alloc _⟩
theorem NewR.next {W w w':World}{b:Nat}(h:NewR W w b)(hb:Below w.heap.size w w'):NewR W w' b:=⟨h.1,h.2.below hb h.2.lt⟩
theorem Q3.new {W w:World}{x y:Ar}(h:Q3 W w x y):NewR W (w.alloc (.cells #[.int .i64 0,.int .i64 0,.int .i64 0,.int .i64 0] 60)) w.heap.size:=⟨h.size,Blk.made _ _ _⟩
theorem Q3.new1 {W w:World}{x y:Ar}(h:Q3 W w x y){n:Nat}(hn:w.heap.size=n):NewR W (w.alloc (.cells #[.int .i64 0,.int .i64 0,.int .i64 0,.int .i64 0] 60)) n:=by subst hn;exact h.new
def put4 (w:World)(b:Nat)(x y z u:Int):World:=(((w.setCell ⟨b,0,none⟩ (.int .i64 x)).setCell ⟨b,1,none⟩ (.int .i64 y)).setCell ⟨b,2,none⟩ (.int .i64 z)).setCell ⟨b,3,none⟩ (.int .i64 u)
theorem NewR.put {W w:World}{b c:Nat}(h:NewR W w b)(hne:b≠c){x y z u:Int}:Blk (put4 w b x y z u) b #[.int .i64 x,.int .i64 y,.int .i64 z,.int .i64 u] 60:=(((h.2.set 0 _).set 1 _).set 2 _).set 3 _
theorem NewR.keep {W w:World}{b c:Nat}(h:NewR W w c)(hb:W.heap.size+2≤b)(hne:b≠c){x y z u:Int}:NewR W (put4 w b x y z u) c:=
 ⟨h.1,(((h.2.setO _ _ (Ne.symm hne)).setO _ _ (Ne.symm hne)).setO _ _ (Ne.symm hne)).setO _ _ (Ne.symm hne)⟩
theorem Q3.put {W w:World}{x y:Ar}(h:Q3 W w x y){b:Nat}(hb:W.heap.size+2≤b)(p q r s:Int):Q3 W (put4 w b p q r s) x y:=(((h.set (a:=⟨b,0,none⟩) hb _).set (a:=⟨b,1,none⟩) hb _).set (a:=⟨b,2,none⟩) hb _).set (a:=⟨b,3,none⟩) hb _
theorem compareQ (a b:Int)(w:World)(r:Int)(h:Hid (cmpI a b=r)):Calls Tryz.prog 128 #[.int .i64 a,.int .i64 b] w fun e w'=>e= .returned (.int .i64 r)∧∃ q,w'=w.drewN q:=
 (jjbe a b w).mono fun _ _ ⟨he,hw⟩=>⟨by rw[he,h.out],0,by rw[hw];rfl⟩
structure Held8 (W w:World)(b6 b7:Nat)(x y:Ar):Prop where
 x0:w.cell? ⟨b6,0,none⟩=some (.int .i64 x.1)
 x1:w.cell? ⟨b6,1,none⟩=some (.int .i64 x.2.1)
 x2:w.cell? ⟨b6,2,none⟩=some (.int .i64 x.2.2.2)
 x3:w.cell? ⟨b6,3,none⟩=some (.int .i64 x.2.2.1)
 y0:w.cell? ⟨b7,0,none⟩=some (.int .i64 y.1)
 y1:w.cell? ⟨b7,1,none⟩=some (.int .i64 y.2.1)
 y2:w.cell? ⟨b7,2,none⟩=some (.int .i64 y.2.2.2)
 y3:w.cell? ⟨b7,3,none⟩=some (.int .i64 y.2.2.1)
 below:Below W.heap.size W w
 drawn:W.drawn≤w.drawn
theorem Held8.drewN {W w:World}{b6 b7:Nat}{x y:Ar}(h:Held8 W w b6 b7 x y)(q:Nat):Held8 W (w.drewN q) b6 b7 x y:=⟨h.x0,h.x1,h.x2,h.x3,h.y0,h.y1,h.y2,h.y3,below_drewN h.below q,Nat.le_trans h.drawn (Nat.le_add_right _ _)⟩
theorem cells_new {w:World}{b:Nat}{cs:Array Value}{t:TypeId}(h:Blk w b cs t){c0 c1 c2 c3:Value}(e:cs= #[c0,c1,c2,c3]):w.cell? ⟨b,0,none⟩=some c0∧w.cell? ⟨b,1,none⟩=some c1∧w.cell? ⟨b,2,none⟩=some c2∧w.cell? ⟨b,3,none⟩=some c3:=by
 subst e;exact⟨h.cell 0 rfl,h.cell 1 rfl,h.cell 2 rfl,h.cell 3 rfl⟩
def TwoRows (W wx:World)(t6 t7:Value)(x y:Ar):Prop:=
  ∃ b6 b7,t6= .pointer (some ⟨b6,0,none⟩)∧t7= .pointer (some ⟨b7,0,none⟩)∧
    (wx.cell? ⟨b6,0,none⟩=some (.int .i64 x.1)∧wx.cell? ⟨b6,1,none⟩=some (.int .i64 x.2.1)∧wx.cell? ⟨b6,2,none⟩=some (.int .i64 x.2.2.2)∧wx.cell? ⟨b6,3,none⟩=some (.int .i64 x.2.2.1))∧
    (wx.cell? ⟨b7,0,none⟩=some (.int .i64 y.1)∧wx.cell? ⟨b7,1,none⟩=some (.int .i64 y.2.1)∧wx.cell? ⟨b7,2,none⟩=some (.int .i64 y.2.2.2)∧wx.cell? ⟨b7,3,none⟩=some (.int .i64 y.2.2.1))∧
    Below W.heap.size W wx∧W.drawn≤wx.drawn
theorem Blk.put4 {w:World}{b c:Nat}{cs:Array Value}{t:TypeId}(h:Blk w b cs t)(hne:b≠c)(x y z u:Int):Blk (put4 w c x y z u) b cs t:=(((h.setO _ _ hne).setO _ _ hne).setO _ _ hne).setO _ _ hne
theorem twoEnd {W wm:World}{x y:Ar}{b6 b7:Nat}(gh:Q3 W wm x y)(g6:Blk wm b6 #[.int .i64 x.1,.int .i64 x.2.1,.int .i64 x.2.2.2,.int .i64 x.2.2.1] 60)(g7:NewR W wm b7)(hne:b6≠b7):
  TwoRows W (put4 wm b7 y.1 y.2.1 y.2.2.2 y.2.2.1) (.pointer (some ⟨b6,0,none⟩)) (.pointer (some ⟨b7,0,none⟩)) x y:=
 ⟨b6,b7,rfl,rfl,cells_new (g6.put4 hne _ _ _ _) rfl,cells_new (g7.put (Ne.symm hne)) rfl,(gh.put g7.1 _ _ _ _).below,(gh.put g7.1 _ _ _ _).drawn⟩
theorem order_any (s:Bool)(x y:Ar)(K:Nat)(k0 k1:Int)(W:World)(hs:k0=(if s then 1 else 0)∧k1=(if s then 0 else 1))(hK:K<W.heap.size)(c0:W.cell? ⟨K,0,none⟩=some (.int .i64 k0))(c1:W.cell? ⟨K,1,none⟩=some (.int .i64 k1))(c2:W.cell? ⟨K,2,none⟩=some (.int .i64 2))(c3:W.cell? ⟨K,3,none⟩=some (.int .i64 3)):
  Calls Tryz.prog 126 #[.agg #[.int .i64 x.1,.int .i64 x.2.1,.int .i64 x.2.2.1,.int .i64 x.2.2.2],.agg #[.int .i64 y.1,.int .i64 y.2.1,.int .i64 y.2.2.1,.int .i64 y.2.2.2],.pointer (some ⟨K,0,none⟩)] W fun e w'=>e= .returned (.int .i64 (cmpS s x y))∧Below W.heap.size W w'∧W.drawn≤w'.drawn:=by
 go_enter Tryz.func126,Tryz.ntmps126;go_upto_region 1 with fail
 go_cut [6,7] (fun t6 t7 wx=>TwoRows W wx t6 t7 x y)
 case first=>
  have H0:Q3 W (((W.alloc (.cells #[.int .i64 x.1,.int .i64 x.2.1,.int .i64 x.2.2.1,.int .i64 x.2.2.2] 56)).alloc (.cells #[.int .i64 y.1,.int .i64 y.2.1,.int .i64 y.2.2.1,.int .i64 y.2.2.2] 56)).drew) x y:=⟨by simp,(Blk.made _ _ _).alloc _,by have h:=Blk.made (W.alloc (.cells #[.int .i64 x.1,.int .i64 x.2.1,.int .i64 x.2.2.1,.int .i64 x.2.2.2] 56)) #[.int .i64 y.1,.int .i64 y.2.1,.int .i64 y.2.2.1,.int .i64 y.2.2.2] 56;simp only[World.size_alloc]at h;exact h,by go_grown,Nat.le_succ _⟩
  refine jjaf (fun w=>Q3 W w x y) 7 (by kernel_rfl) ?_
  clear c0 c1 c2 c3;generalize (((W.alloc (.cells #[.int .i64 x.1,.int .i64 x.2.1,.int .i64 x.2.2.1,.int .i64 x.2.2.2] 56)).alloc (.cells #[.int .i64 y.1,.int .i64 y.2.1,.int .i64 y.2.2.1,.int .i64 y.2.2.2] 56)).drew)=w0 at H0 ⊢;refine jjaa (v:=?v0_1) aZ0 ?y0_1 H0 ?r0_1
  case y0_1=>intro wx hx;have g0:=hx.bx.cell 0 (v:= .int .i64 x.1) rfl;have g1:=hx.bx.cell 1 (v:= .int .i64 x.2.1) rfl;have g2:=hx.bx.cell 2 (v:= .int .i64 x.2.2.1) rfl;have g3:=hx.bx.cell 3 (v:= .int .i64 x.2.2.2) rfl;have k0:=hx.by'.cell 0 (v:= .int .i64 y.1) rfl;have k1:=hx.by'.cell 1 (v:= .int .i64 y.2.1) rfl;have k2:=hx.by'.cell 2 (v:= .int .i64 y.2.2.1) rfl;have k3:=hx.by'.cell 3 (v:= .int .i64 y.2.2.2) rfl;go_simp;try (with_reducible rfl)
  simp only[Act.put,sA,sB,sC];refine jjaa (v:=?v2_2) aZ2 ?y2_2 H0 ?r2_2
  case y2_2=>intro wx hx;have g0:=hx.bx.cell 0 (v:= .int .i64 x.1) rfl;have g1:=hx.bx.cell 1 (v:= .int .i64 x.2.1) rfl;have g2:=hx.bx.cell 2 (v:= .int .i64 x.2.2.1) rfl;have g3:=hx.bx.cell 3 (v:= .int .i64 x.2.2.2) rfl;have k0:=hx.by'.cell 0 (v:= .int .i64 y.1) rfl;have k1:=hx.by'.cell 1 (v:= .int .i64 y.2.1) rfl;have k2:=hx.by'.cell 2 (v:= .int .i64 y.2.2.1) rfl;have k3:=hx.by'.cell 3 (v:= .int .i64 y.2.2.2) rfl;go_simp;try (with_reducible rfl)
  simp only[Act.put,sA,sB,sC]
  -- TREE
  refine jjbp (rs:=[1,4,5]) (by kernel_rfl) (by simp) (List.forall_mem_cons.2 ⟨⟨_,aZ1,rfl,fun K hK=>?_⟩,List.forall_mem_cons.2 ⟨⟨_,aZ4,rfl,fun K hK=>?_⟩,List.forall_mem_cons.2 ⟨⟨_,aZ5,rfl,fun K hK=>?_⟩,fun _ h=>absurd h (by simp)⟩⟩⟩)
  ·
   go_simp;go_fit (jjap _ _ _ _ _);rintro e v1 ⟨rfl,hs1,hb1,hd1⟩
   have h1:Q3 W v1 x y:=H0.next hb1 hd1;clear hb1 hd1 hs1;go_simp;refine hK _ _ (.inr h1) ?_
   try simp only[Act.put,sA,sB,sC]
   refine jjbp (rs:=[3,4,5]) (by kernel_rfl) (by simp) (List.forall_mem_cons.2 ⟨⟨_,aZ3,rfl,fun K hK=>?_⟩,List.forall_mem_cons.2 ⟨⟨_,aZ4,rfl,fun K hK=>?_⟩,List.forall_mem_cons.2 ⟨⟨_,aZ5,rfl,fun K hK=>?_⟩,fun _ h=>absurd h (by simp)⟩⟩⟩)
   ·
    go_simp;go_fit (jjap _ _ _ _ _);rintro e v2 ⟨rfl,hs2,hb2,hd2⟩
    have h2:Q3 W v2 x y:=h1.next hb2 hd2;clear hb2 hd2 hs2;go_simp;refine hK _ _ (.inr h2) ?_
    try simp only[Act.put,sA,sB,sC]
    refine jjbp (rs:=[4,5]) (by kernel_rfl) (by simp) (List.forall_mem_cons.2 ⟨⟨_,aZ4,rfl,fun K hK=>?_⟩,List.forall_mem_cons.2 ⟨⟨_,aZ5,rfl,fun K hK=>?_⟩,fun _ h=>absurd h (by simp)⟩⟩)
    ·
     go_simp;have h3:Q3 W (v2.alloc (.cells #[.int .i64 0,.int .i64 0,.int .i64 0,.int .i64 0] 60)) x y:=h2.alloc _;have n4:NewR W (v2.alloc (.cells #[.int .i64 0,.int .i64 0,.int .i64 0,.int .i64 0] 60)) (v2.heap.size):=h2.new1 (by simp);refine hK _ _ (.inr h3) ?_
     try simp only[Act.put,sA,sB,sC]
     refine jjab aZ5 (fun K hK=>?_)
     go_simp;have h5:Q3 W ((v2.alloc (.cells #[.int .i64 0,.int .i64 0,.int .i64 0,.int .i64 0] 60)).alloc (.cells #[.int .i64 0,.int .i64 0,.int .i64 0,.int .i64 0] 60)) x y:=h3.alloc _;have n6:NewR W ((v2.alloc (.cells #[.int .i64 0,.int .i64 0,.int .i64 0,.int .i64 0] 60)).alloc (.cells #[.int .i64 0,.int .i64 0,.int .i64 0,.int .i64 0] 60)) (v2.heap.size):=n4.alloc _
     have n7:NewR W ((v2.alloc (.cells #[.int .i64 0,.int .i64 0,.int .i64 0,.int .i64 0] 60)).alloc (.cells #[.int .i64 0,.int .i64 0,.int .i64 0,.int .i64 0] 60)) (v2.heap.size+1):=h3.new1 (by simp);have hne:v2.heap.size≠v2.heap.size+1:=by have:=n4.2.lt;(try simp only[World.size_alloc]at this);omega
     refine hK _ _ (.inr h5) ?_
     try simp only[Act.put,sA,sB,sC]
     have n6:=n6;have n7:=n7;have hh:=h5;generalize ((v2.alloc (.cells #[.int .i64 0,.int .i64 0,.int .i64 0,.int .i64 0] 60)).alloc (.cells #[.int .i64 0,.int .i64 0,.int .i64 0,.int .i64 0] 60))=wl at n6 n7 hh ⊢;generalize v2.heap.size+1=b7 at n6 n7 hne ⊢;generalize v2.heap.size=b6 at n6 n7 hne ⊢;have z0:=n6.2.cell 0 (v:= .int .i64 0) rfl;have z1:=n6.2.cell 1 (v:= .int .i64 0) rfl
     have z2:=n6.2.cell 2 (v:= .int .i64 0) rfl;have z3:=n6.2.cell 3 (v:= .int .i64 0) rfl;have f0:=n6.2.fz 0;have f1:=n6.2.fz 1;have f2:=n6.2.fz 2;have f3:=n6.2.fz 3;refine jjab aZ6 (fun K hK=>?_)
     go_simp;have g6:=n6.put hne (x:=x.1) (y:=x.2.1) (z:=x.2.2.2) (u:=x.2.2.1);have g7:=n7.keep n6.1 hne (x:=x.1) (y:=x.2.1) (z:=x.2.2.2) (u:=x.2.2.1);have gh:=hh.put n6.1 x.1 x.2.1 x.2.2.2 x.2.2.1;refine hK _ _ (.inr gh) ?_
     try simp only[Act.put,sA,sB,sC]
     show AnyL _ _ _ _ _ _ _ _ _ (put4 wl b6 x.1 x.2.1 x.2.2.2 x.2.2.1);generalize put4 wl b6 x.1 x.2.1 x.2.2.2 x.2.2.1=wm at g6 g7 gh ⊢;clear z0 z1 z2 z3 f0 f1 f2 f3;have z0:=g7.2.cell 0 (v:= .int .i64 0) rfl;have z1:=g7.2.cell 1 (v:= .int .i64 0) rfl;have z2:=g7.2.cell 2 (v:= .int .i64 0) rfl;have z3:=g7.2.cell 3 (v:= .int .i64 0) rfl;have f0:=g7.2.fz 0;have f1:=g7.2.fz 1;have f2:=g7.2.fz 2
     have f3:=g7.2.fz 3;refine jjab aZ7 (fun K hK=>?_)
     go_simp;refine hK _ _ (.inl rfl) (jjad (by kernel_rfl) (NoPanic.normal ?_))
     try simp only[Act.put,sA,sB,sC]
     go_wp2;go_meet
     case rel=>exact twoEnd gh g6 g7 hne
    ·
     go_simp;have h8:Q3 W (v2.alloc (.cells #[.int .i64 0,.int .i64 0,.int .i64 0,.int .i64 0] 60)) x y:=h2.alloc _;have n9:NewR W (v2.alloc (.cells #[.int .i64 0,.int .i64 0,.int .i64 0,.int .i64 0] 60)) (v2.heap.size):=h2.new1 (by simp);refine hK _ _ (.inr h8) ?_
     try simp only[Act.put,sA,sB,sC]
     refine jjab aZ4 (fun K hK=>?_)
     go_simp;have h10:Q3 W ((v2.alloc (.cells #[.int .i64 0,.int .i64 0,.int .i64 0,.int .i64 0] 60)).alloc (.cells #[.int .i64 0,.int .i64 0,.int .i64 0,.int .i64 0] 60)) x y:=h8.alloc _;have n11:NewR W ((v2.alloc (.cells #[.int .i64 0,.int .i64 0,.int .i64 0,.int .i64 0] 60)).alloc (.cells #[.int .i64 0,.int .i64 0,.int .i64 0,.int .i64 0] 60)) (v2.heap.size):=n9.alloc _
     have n12:NewR W ((v2.alloc (.cells #[.int .i64 0,.int .i64 0,.int .i64 0,.int .i64 0] 60)).alloc (.cells #[.int .i64 0,.int .i64 0,.int .i64 0,.int .i64 0] 60)) (v2.heap.size+1):=h8.new1 (by simp);have hne:v2.heap.size+1≠v2.heap.size:=by have:=n9.2.lt;(try simp only[World.size_alloc]at this);omega
     refine hK _ _ (.inr h10) ?_
     try simp only[Act.put,sA,sB,sC]
     have n6:=n12;have n7:=n11;have hh:=h10;generalize ((v2.alloc (.cells #[.int .i64 0,.int .i64 0,.int .i64 0,.int .i64 0] 60)).alloc (.cells #[.int .i64 0,.int .i64 0,.int .i64 0,.int .i64 0] 60))=wl at n6 n7 hh ⊢;generalize v2.heap.size+1=b6 at n6 n7 hne ⊢;generalize v2.heap.size=b7 at n6 n7 hne ⊢;have z0:=n6.2.cell 0 (v:= .int .i64 0) rfl;have z1:=n6.2.cell 1 (v:= .int .i64 0) rfl
     have z2:=n6.2.cell 2 (v:= .int .i64 0) rfl;have z3:=n6.2.cell 3 (v:= .int .i64 0) rfl;have f0:=n6.2.fz 0;have f1:=n6.2.fz 1;have f2:=n6.2.fz 2;have f3:=n6.2.fz 3;refine jjab aZ6 (fun K hK=>?_)
     go_simp;have g6:=n6.put hne (x:=x.1) (y:=x.2.1) (z:=x.2.2.2) (u:=x.2.2.1);have g7:=n7.keep n6.1 hne (x:=x.1) (y:=x.2.1) (z:=x.2.2.2) (u:=x.2.2.1);have gh:=hh.put n6.1 x.1 x.2.1 x.2.2.2 x.2.2.1;refine hK _ _ (.inr gh) ?_
     try simp only[Act.put,sA,sB,sC]
     show AnyL _ _ _ _ _ _ _ _ _ (put4 wl b6 x.1 x.2.1 x.2.2.2 x.2.2.1);generalize put4 wl b6 x.1 x.2.1 x.2.2.2 x.2.2.1=wm at g6 g7 gh ⊢;clear z0 z1 z2 z3 f0 f1 f2 f3;have z0:=g7.2.cell 0 (v:= .int .i64 0) rfl;have z1:=g7.2.cell 1 (v:= .int .i64 0) rfl;have z2:=g7.2.cell 2 (v:= .int .i64 0) rfl;have z3:=g7.2.cell 3 (v:= .int .i64 0) rfl;have f0:=g7.2.fz 0;have f1:=g7.2.fz 1;have f2:=g7.2.fz 2
     have f3:=g7.2.fz 3;refine jjab aZ7 (fun K hK=>?_)
     go_simp;refine hK _ _ (.inl rfl) (jjad (by kernel_rfl) (NoPanic.normal ?_))
     try simp only[Act.put,sA,sB,sC]
     go_wp2;go_meet
     case rel=>exact twoEnd gh g6 g7 hne
   ·
    go_simp;have h13:Q3 W (v1.alloc (.cells #[.int .i64 0,.int .i64 0,.int .i64 0,.int .i64 0] 60)) x y:=h1.alloc _;have n14:NewR W (v1.alloc (.cells #[.int .i64 0,.int .i64 0,.int .i64 0,.int .i64 0] 60)) (v1.heap.size):=h1.new1 (by simp);refine hK _ _ (.inr h13) ?_
    try simp only[Act.put,sA,sB,sC]
    refine jjbp (rs:=[3,5]) (by kernel_rfl) (by simp) (List.forall_mem_cons.2 ⟨⟨_,aZ3,rfl,fun K hK=>?_⟩,List.forall_mem_cons.2 ⟨⟨_,aZ5,rfl,fun K hK=>?_⟩,fun _ h=>absurd h (by simp)⟩⟩)
    ·
     go_simp;go_fit (jjap _ _ _ _ _);rintro e v15 ⟨rfl,hs15,hb15,hd15⟩
     have h15:Q3 W v15 x y:=h13.next hb15 hd15;have n16:NewR W v15 (v1.heap.size):=n14.next hb15;clear hb15 hd15 hs15;go_simp;refine hK _ _ (.inr h15) ?_
     try simp only[Act.put,sA,sB,sC]
     refine jjab aZ5 (fun K hK=>?_)
     go_simp;have h17:Q3 W (v15.alloc (.cells #[.int .i64 0,.int .i64 0,.int .i64 0,.int .i64 0] 60)) x y:=h15.alloc _;have n18:NewR W (v15.alloc (.cells #[.int .i64 0,.int .i64 0,.int .i64 0,.int .i64 0] 60)) (v1.heap.size):=n16.alloc _;have n19:NewR W (v15.alloc (.cells #[.int .i64 0,.int .i64 0,.int .i64 0,.int .i64 0] 60)) (v15.heap.size):=h15.new1 (by simp)
     have hne:v1.heap.size≠v15.heap.size:=by have:=n16.2.lt;(try simp only[World.size_alloc]at this);omega
     refine hK _ _ (.inr h17) ?_
     try simp only[Act.put,sA,sB,sC]
     have n6:=n18;have n7:=n19;have hh:=h17;generalize (v15.alloc (.cells #[.int .i64 0,.int .i64 0,.int .i64 0,.int .i64 0] 60))=wl at n6 n7 hh ⊢;generalize v15.heap.size=b7 at n6 n7 hne ⊢;generalize v1.heap.size=b6 at n6 n7 hne ⊢;have z0:=n6.2.cell 0 (v:= .int .i64 0) rfl;have z1:=n6.2.cell 1 (v:= .int .i64 0) rfl;have z2:=n6.2.cell 2 (v:= .int .i64 0) rfl
     have z3:=n6.2.cell 3 (v:= .int .i64 0) rfl;have f0:=n6.2.fz 0;have f1:=n6.2.fz 1;have f2:=n6.2.fz 2;have f3:=n6.2.fz 3;refine jjab aZ6 (fun K hK=>?_)
     go_simp;have g6:=n6.put hne (x:=x.1) (y:=x.2.1) (z:=x.2.2.2) (u:=x.2.2.1);have g7:=n7.keep n6.1 hne (x:=x.1) (y:=x.2.1) (z:=x.2.2.2) (u:=x.2.2.1);have gh:=hh.put n6.1 x.1 x.2.1 x.2.2.2 x.2.2.1;refine hK _ _ (.inr gh) ?_
     try simp only[Act.put,sA,sB,sC]
     show AnyL _ _ _ _ _ _ _ _ _ (put4 wl b6 x.1 x.2.1 x.2.2.2 x.2.2.1);generalize put4 wl b6 x.1 x.2.1 x.2.2.2 x.2.2.1=wm at g6 g7 gh ⊢;clear z0 z1 z2 z3 f0 f1 f2 f3;have z0:=g7.2.cell 0 (v:= .int .i64 0) rfl;have z1:=g7.2.cell 1 (v:= .int .i64 0) rfl;have z2:=g7.2.cell 2 (v:= .int .i64 0) rfl;have z3:=g7.2.cell 3 (v:= .int .i64 0) rfl;have f0:=g7.2.fz 0;have f1:=g7.2.fz 1;have f2:=g7.2.fz 2
     have f3:=g7.2.fz 3;refine jjab aZ7 (fun K hK=>?_)
     go_simp;refine hK _ _ (.inl rfl) (jjad (by kernel_rfl) (NoPanic.normal ?_))
     try simp only[Act.put,sA,sB,sC]
     go_wp2;go_meet
     case rel=>exact twoEnd gh g6 g7 hne
    ·
     go_simp;have h20:Q3 W ((v1.alloc (.cells #[.int .i64 0,.int .i64 0,.int .i64 0,.int .i64 0] 60)).alloc (.cells #[.int .i64 0,.int .i64 0,.int .i64 0,.int .i64 0] 60)) x y:=h13.alloc _;have n21:NewR W ((v1.alloc (.cells #[.int .i64 0,.int .i64 0,.int .i64 0,.int .i64 0] 60)).alloc (.cells #[.int .i64 0,.int .i64 0,.int .i64 0,.int .i64 0] 60)) (v1.heap.size):=n14.alloc _
     have n22:NewR W ((v1.alloc (.cells #[.int .i64 0,.int .i64 0,.int .i64 0,.int .i64 0] 60)).alloc (.cells #[.int .i64 0,.int .i64 0,.int .i64 0,.int .i64 0] 60)) (v1.heap.size+1):=h13.new1 (by simp);have hne:v1.heap.size≠v1.heap.size+1:=by have:=n14.2.lt;(try simp only[World.size_alloc]at this);omega
     refine hK _ _ (.inr h20) ?_
     try simp only[Act.put,sA,sB,sC]
     refine jjab aZ3 (fun K hK=>?_)
     go_simp;go_fit (jjap _ _ _ _ _);rintro e v23 ⟨rfl,hs23,hb23,hd23⟩
     have h23:Q3 W v23 x y:=h20.next hb23 hd23;have n24:NewR W v23 (v1.heap.size):=n21.next hb23;have n25:NewR W v23 (v1.heap.size+1):=n22.next hb23;clear hb23 hd23 hs23;go_simp;refine hK _ _ (.inr h23) ?_
     try simp only[Act.put,sA,sB,sC]
     have n6:=n24;have n7:=n25;have hh:=h23;generalize hwl:v23=wl at n6 n7 hh ⊢;generalize v1.heap.size+1=b7 at n6 n7 hne ⊢;generalize v1.heap.size=b6 at n6 n7 hne ⊢;have z0:=n6.2.cell 0 (v:= .int .i64 0) rfl;have z1:=n6.2.cell 1 (v:= .int .i64 0) rfl;have z2:=n6.2.cell 2 (v:= .int .i64 0) rfl;have z3:=n6.2.cell 3 (v:= .int .i64 0) rfl;have f0:=n6.2.fz 0;have f1:=n6.2.fz 1;have f2:=n6.2.fz 2
     have f3:=n6.2.fz 3;refine jjab aZ6 (fun K hK=>?_)
     go_simp;have g6:=n6.put hne (x:=x.1) (y:=x.2.1) (z:=x.2.2.2) (u:=x.2.2.1);have g7:=n7.keep n6.1 hne (x:=x.1) (y:=x.2.1) (z:=x.2.2.2) (u:=x.2.2.1);have gh:=hh.put n6.1 x.1 x.2.1 x.2.2.2 x.2.2.1;refine hK _ _ (.inr gh) ?_
     try simp only[Act.put,sA,sB,sC]
     show AnyL _ _ _ _ _ _ _ _ _ (put4 wl b6 x.1 x.2.1 x.2.2.2 x.2.2.1);generalize put4 wl b6 x.1 x.2.1 x.2.2.2 x.2.2.1=wm at g6 g7 gh ⊢;clear z0 z1 z2 z3 f0 f1 f2 f3;have z0:=g7.2.cell 0 (v:= .int .i64 0) rfl;have z1:=g7.2.cell 1 (v:= .int .i64 0) rfl;have z2:=g7.2.cell 2 (v:= .int .i64 0) rfl;have z3:=g7.2.cell 3 (v:= .int .i64 0) rfl;have f0:=g7.2.fz 0;have f1:=g7.2.fz 1;have f2:=g7.2.fz 2
     have f3:=g7.2.fz 3;refine jjab aZ7 (fun K hK=>?_)
     go_simp;refine hK _ _ (.inl rfl) (jjad (by kernel_rfl) (NoPanic.normal ?_))
     try simp only[Act.put,sA,sB,sC]
     go_wp2;go_meet
     case rel=>exact twoEnd gh g6 g7 hne
   ·
    go_simp;have h26:Q3 W (v1.alloc (.cells #[.int .i64 0,.int .i64 0,.int .i64 0,.int .i64 0] 60)) x y:=h1.alloc _;have n27:NewR W (v1.alloc (.cells #[.int .i64 0,.int .i64 0,.int .i64 0,.int .i64 0] 60)) (v1.heap.size):=h1.new1 (by simp);refine hK _ _ (.inr h26) ?_
    try simp only[Act.put,sA,sB,sC]
    refine jjbp (rs:=[3,4]) (by kernel_rfl) (by simp) (List.forall_mem_cons.2 ⟨⟨_,aZ3,rfl,fun K hK=>?_⟩,List.forall_mem_cons.2 ⟨⟨_,aZ4,rfl,fun K hK=>?_⟩,fun _ h=>absurd h (by simp)⟩⟩)
    ·
     go_simp;go_fit (jjap _ _ _ _ _);rintro e v28 ⟨rfl,hs28,hb28,hd28⟩
     have h28:Q3 W v28 x y:=h26.next hb28 hd28;have n29:NewR W v28 (v1.heap.size):=n27.next hb28;clear hb28 hd28 hs28;go_simp;refine hK _ _ (.inr h28) ?_
     try simp only[Act.put,sA,sB,sC]
     refine jjab aZ4 (fun K hK=>?_)
     go_simp;have h30:Q3 W (v28.alloc (.cells #[.int .i64 0,.int .i64 0,.int .i64 0,.int .i64 0] 60)) x y:=h28.alloc _;have n31:NewR W (v28.alloc (.cells #[.int .i64 0,.int .i64 0,.int .i64 0,.int .i64 0] 60)) (v1.heap.size):=n29.alloc _;have n32:NewR W (v28.alloc (.cells #[.int .i64 0,.int .i64 0,.int .i64 0,.int .i64 0] 60)) (v28.heap.size):=h28.new1 (by simp)
     have hne:v28.heap.size≠v1.heap.size:=by have:=n29.2.lt;(try simp only[World.size_alloc]at this);omega
     refine hK _ _ (.inr h30) ?_
     try simp only[Act.put,sA,sB,sC]
     have n6:=n32;have n7:=n31;have hh:=h30;generalize (v28.alloc (.cells #[.int .i64 0,.int .i64 0,.int .i64 0,.int .i64 0] 60))=wl at n6 n7 hh ⊢;generalize v28.heap.size=b6 at n6 n7 hne ⊢;generalize v1.heap.size=b7 at n6 n7 hne ⊢;have z0:=n6.2.cell 0 (v:= .int .i64 0) rfl;have z1:=n6.2.cell 1 (v:= .int .i64 0) rfl;have z2:=n6.2.cell 2 (v:= .int .i64 0) rfl
     have z3:=n6.2.cell 3 (v:= .int .i64 0) rfl;have f0:=n6.2.fz 0;have f1:=n6.2.fz 1;have f2:=n6.2.fz 2;have f3:=n6.2.fz 3;refine jjab aZ6 (fun K hK=>?_)
     go_simp;have g6:=n6.put hne (x:=x.1) (y:=x.2.1) (z:=x.2.2.2) (u:=x.2.2.1);have g7:=n7.keep n6.1 hne (x:=x.1) (y:=x.2.1) (z:=x.2.2.2) (u:=x.2.2.1);have gh:=hh.put n6.1 x.1 x.2.1 x.2.2.2 x.2.2.1;refine hK _ _ (.inr gh) ?_
     try simp only[Act.put,sA,sB,sC]
     show AnyL _ _ _ _ _ _ _ _ _ (put4 wl b6 x.1 x.2.1 x.2.2.2 x.2.2.1);generalize put4 wl b6 x.1 x.2.1 x.2.2.2 x.2.2.1=wm at g6 g7 gh ⊢;clear z0 z1 z2 z3 f0 f1 f2 f3;have z0:=g7.2.cell 0 (v:= .int .i64 0) rfl;have z1:=g7.2.cell 1 (v:= .int .i64 0) rfl;have z2:=g7.2.cell 2 (v:= .int .i64 0) rfl;have z3:=g7.2.cell 3 (v:= .int .i64 0) rfl;have f0:=g7.2.fz 0;have f1:=g7.2.fz 1;have f2:=g7.2.fz 2
     have f3:=g7.2.fz 3;refine jjab aZ7 (fun K hK=>?_)
     go_simp;refine hK _ _ (.inl rfl) (jjad (by kernel_rfl) (NoPanic.normal ?_))
     try simp only[Act.put,sA,sB,sC]
     go_wp2;go_meet
     case rel=>exact twoEnd gh g6 g7 hne
    ·
     go_simp;have h33:Q3 W ((v1.alloc (.cells #[.int .i64 0,.int .i64 0,.int .i64 0,.int .i64 0] 60)).alloc (.cells #[.int .i64 0,.int .i64 0,.int .i64 0,.int .i64 0] 60)) x y:=h26.alloc _;have n34:NewR W ((v1.alloc (.cells #[.int .i64 0,.int .i64 0,.int .i64 0,.int .i64 0] 60)).alloc (.cells #[.int .i64 0,.int .i64 0,.int .i64 0,.int .i64 0] 60)) (v1.heap.size):=n27.alloc _
     have n35:NewR W ((v1.alloc (.cells #[.int .i64 0,.int .i64 0,.int .i64 0,.int .i64 0] 60)).alloc (.cells #[.int .i64 0,.int .i64 0,.int .i64 0,.int .i64 0] 60)) (v1.heap.size+1):=h26.new1 (by simp);have hne:v1.heap.size+1≠v1.heap.size:=by have:=n27.2.lt;(try simp only[World.size_alloc]at this);omega
     refine hK _ _ (.inr h33) ?_
     try simp only[Act.put,sA,sB,sC]
     refine jjab aZ3 (fun K hK=>?_)
     go_simp;go_fit (jjap _ _ _ _ _);rintro e v36 ⟨rfl,hs36,hb36,hd36⟩
     have h36:Q3 W v36 x y:=h33.next hb36 hd36;have n37:NewR W v36 (v1.heap.size+1):=n35.next hb36;have n38:NewR W v36 (v1.heap.size):=n34.next hb36;clear hb36 hd36 hs36;go_simp;refine hK _ _ (.inr h36) ?_
     try simp only[Act.put,sA,sB,sC]
     have n6:=n37;have n7:=n38;have hh:=h36;generalize hwl:v36=wl at n6 n7 hh ⊢;generalize v1.heap.size+1=b6 at n6 n7 hne ⊢;generalize v1.heap.size=b7 at n6 n7 hne ⊢;have z0:=n6.2.cell 0 (v:= .int .i64 0) rfl;have z1:=n6.2.cell 1 (v:= .int .i64 0) rfl;have z2:=n6.2.cell 2 (v:= .int .i64 0) rfl;have z3:=n6.2.cell 3 (v:= .int .i64 0) rfl;have f0:=n6.2.fz 0;have f1:=n6.2.fz 1;have f2:=n6.2.fz 2
     have f3:=n6.2.fz 3;refine jjab aZ6 (fun K hK=>?_)
     go_simp;have g6:=n6.put hne (x:=x.1) (y:=x.2.1) (z:=x.2.2.2) (u:=x.2.2.1);have g7:=n7.keep n6.1 hne (x:=x.1) (y:=x.2.1) (z:=x.2.2.2) (u:=x.2.2.1);have gh:=hh.put n6.1 x.1 x.2.1 x.2.2.2 x.2.2.1;refine hK _ _ (.inr gh) ?_
     try simp only[Act.put,sA,sB,sC]
     show AnyL _ _ _ _ _ _ _ _ _ (put4 wl b6 x.1 x.2.1 x.2.2.2 x.2.2.1);generalize put4 wl b6 x.1 x.2.1 x.2.2.2 x.2.2.1=wm at g6 g7 gh ⊢;clear z0 z1 z2 z3 f0 f1 f2 f3;have z0:=g7.2.cell 0 (v:= .int .i64 0) rfl;have z1:=g7.2.cell 1 (v:= .int .i64 0) rfl;have z2:=g7.2.cell 2 (v:= .int .i64 0) rfl;have z3:=g7.2.cell 3 (v:= .int .i64 0) rfl;have f0:=g7.2.fz 0;have f1:=g7.2.fz 1;have f2:=g7.2.fz 2
     have f3:=g7.2.fz 3;refine jjab aZ7 (fun K hK=>?_)
     go_simp;refine hK _ _ (.inl rfl) (jjad (by kernel_rfl) (NoPanic.normal ?_))
     try simp only[Act.put,sA,sB,sC]
     go_wp2;go_meet
     case rel=>exact twoEnd gh g6 g7 hne
  ·
   go_simp;have h39:Q3 W (w0.alloc (.cells #[.int .i64 0,.int .i64 0,.int .i64 0,.int .i64 0] 60)) x y:=H0.alloc _;have n40:NewR W (w0.alloc (.cells #[.int .i64 0,.int .i64 0,.int .i64 0,.int .i64 0] 60)) (w0.heap.size):=H0.new1 (by simp);refine hK _ _ (.inr h39) ?_
   try simp only[Act.put,sA,sB,sC]
   refine jjbp (rs:=[1,5]) (by kernel_rfl) (by simp) (List.forall_mem_cons.2 ⟨⟨_,aZ1,rfl,fun K hK=>?_⟩,List.forall_mem_cons.2 ⟨⟨_,aZ5,rfl,fun K hK=>?_⟩,fun _ h=>absurd h (by simp)⟩⟩)
   ·
    go_simp;go_fit (jjap _ _ _ _ _);rintro e v41 ⟨rfl,hs41,hb41,hd41⟩
    have h41:Q3 W v41 x y:=h39.next hb41 hd41;have n42:NewR W v41 (w0.heap.size):=n40.next hb41;clear hb41 hd41 hs41;go_simp;refine hK _ _ (.inr h41) ?_
    try simp only[Act.put,sA,sB,sC]
    refine jjbp (rs:=[3,5]) (by kernel_rfl) (by simp) (List.forall_mem_cons.2 ⟨⟨_,aZ3,rfl,fun K hK=>?_⟩,List.forall_mem_cons.2 ⟨⟨_,aZ5,rfl,fun K hK=>?_⟩,fun _ h=>absurd h (by simp)⟩⟩)
    ·
     go_simp;go_fit (jjap _ _ _ _ _);rintro e v43 ⟨rfl,hs43,hb43,hd43⟩
     have h43:Q3 W v43 x y:=h41.next hb43 hd43;have n44:NewR W v43 (w0.heap.size):=n42.next hb43;clear hb43 hd43 hs43;go_simp;refine hK _ _ (.inr h43) ?_
     try simp only[Act.put,sA,sB,sC]
     refine jjab aZ5 (fun K hK=>?_)
     go_simp;have h45:Q3 W (v43.alloc (.cells #[.int .i64 0,.int .i64 0,.int .i64 0,.int .i64 0] 60)) x y:=h43.alloc _;have n46:NewR W (v43.alloc (.cells #[.int .i64 0,.int .i64 0,.int .i64 0,.int .i64 0] 60)) (w0.heap.size):=n44.alloc _;have n47:NewR W (v43.alloc (.cells #[.int .i64 0,.int .i64 0,.int .i64 0,.int .i64 0] 60)) (v43.heap.size):=h43.new1 (by simp)
     have hne:w0.heap.size≠v43.heap.size:=by have:=n44.2.lt;(try simp only[World.size_alloc]at this);omega
     refine hK _ _ (.inr h45) ?_
     try simp only[Act.put,sA,sB,sC]
     have n6:=n46;have n7:=n47;have hh:=h45;generalize (v43.alloc (.cells #[.int .i64 0,.int .i64 0,.int .i64 0,.int .i64 0] 60))=wl at n6 n7 hh ⊢;generalize v43.heap.size=b7 at n6 n7 hne ⊢;generalize w0.heap.size=b6 at n6 n7 hne ⊢;have z0:=n6.2.cell 0 (v:= .int .i64 0) rfl;have z1:=n6.2.cell 1 (v:= .int .i64 0) rfl;have z2:=n6.2.cell 2 (v:= .int .i64 0) rfl
     have z3:=n6.2.cell 3 (v:= .int .i64 0) rfl;have f0:=n6.2.fz 0;have f1:=n6.2.fz 1;have f2:=n6.2.fz 2;have f3:=n6.2.fz 3;refine jjab aZ6 (fun K hK=>?_)
     go_simp;have g6:=n6.put hne (x:=x.1) (y:=x.2.1) (z:=x.2.2.2) (u:=x.2.2.1);have g7:=n7.keep n6.1 hne (x:=x.1) (y:=x.2.1) (z:=x.2.2.2) (u:=x.2.2.1);have gh:=hh.put n6.1 x.1 x.2.1 x.2.2.2 x.2.2.1;refine hK _ _ (.inr gh) ?_
     try simp only[Act.put,sA,sB,sC]
     show AnyL _ _ _ _ _ _ _ _ _ (put4 wl b6 x.1 x.2.1 x.2.2.2 x.2.2.1);generalize put4 wl b6 x.1 x.2.1 x.2.2.2 x.2.2.1=wm at g6 g7 gh ⊢;clear z0 z1 z2 z3 f0 f1 f2 f3;have z0:=g7.2.cell 0 (v:= .int .i64 0) rfl;have z1:=g7.2.cell 1 (v:= .int .i64 0) rfl;have z2:=g7.2.cell 2 (v:= .int .i64 0) rfl;have z3:=g7.2.cell 3 (v:= .int .i64 0) rfl;have f0:=g7.2.fz 0;have f1:=g7.2.fz 1;have f2:=g7.2.fz 2
     have f3:=g7.2.fz 3;refine jjab aZ7 (fun K hK=>?_)
     go_simp;refine hK _ _ (.inl rfl) (jjad (by kernel_rfl) (NoPanic.normal ?_))
     try simp only[Act.put,sA,sB,sC]
     go_wp2;go_meet
     case rel=>exact twoEnd gh g6 g7 hne
    ·
     go_simp;have h48:Q3 W (v41.alloc (.cells #[.int .i64 0,.int .i64 0,.int .i64 0,.int .i64 0] 60)) x y:=h41.alloc _;have n49:NewR W (v41.alloc (.cells #[.int .i64 0,.int .i64 0,.int .i64 0,.int .i64 0] 60)) (w0.heap.size):=n42.alloc _;have n50:NewR W (v41.alloc (.cells #[.int .i64 0,.int .i64 0,.int .i64 0,.int .i64 0] 60)) (v41.heap.size):=h41.new1 (by simp)
     have hne:w0.heap.size≠v41.heap.size:=by have:=n42.2.lt;(try simp only[World.size_alloc]at this);omega
     refine hK _ _ (.inr h48) ?_
     try simp only[Act.put,sA,sB,sC]
     refine jjab aZ3 (fun K hK=>?_)
     go_simp;go_fit (jjap _ _ _ _ _);rintro e v51 ⟨rfl,hs51,hb51,hd51⟩
     have h51:Q3 W v51 x y:=h48.next hb51 hd51;have n52:NewR W v51 (w0.heap.size):=n49.next hb51;have n53:NewR W v51 (v41.heap.size):=n50.next hb51;clear hb51 hd51 hs51;go_simp;refine hK _ _ (.inr h51) ?_
     try simp only[Act.put,sA,sB,sC]
     have n6:=n52;have n7:=n53;have hh:=h51;generalize hwl:v51=wl at n6 n7 hh ⊢;generalize v41.heap.size=b7 at n6 n7 hne ⊢;generalize w0.heap.size=b6 at n6 n7 hne ⊢;have z0:=n6.2.cell 0 (v:= .int .i64 0) rfl;have z1:=n6.2.cell 1 (v:= .int .i64 0) rfl;have z2:=n6.2.cell 2 (v:= .int .i64 0) rfl;have z3:=n6.2.cell 3 (v:= .int .i64 0) rfl;have f0:=n6.2.fz 0;have f1:=n6.2.fz 1;have f2:=n6.2.fz 2
     have f3:=n6.2.fz 3;refine jjab aZ6 (fun K hK=>?_)
     go_simp;have g6:=n6.put hne (x:=x.1) (y:=x.2.1) (z:=x.2.2.2) (u:=x.2.2.1);have g7:=n7.keep n6.1 hne (x:=x.1) (y:=x.2.1) (z:=x.2.2.2) (u:=x.2.2.1);have gh:=hh.put n6.1 x.1 x.2.1 x.2.2.2 x.2.2.1;refine hK _ _ (.inr gh) ?_
     try simp only[Act.put,sA,sB,sC]
     show AnyL _ _ _ _ _ _ _ _ _ (put4 wl b6 x.1 x.2.1 x.2.2.2 x.2.2.1);generalize put4 wl b6 x.1 x.2.1 x.2.2.2 x.2.2.1=wm at g6 g7 gh ⊢;clear z0 z1 z2 z3 f0 f1 f2 f3;have z0:=g7.2.cell 0 (v:= .int .i64 0) rfl;have z1:=g7.2.cell 1 (v:= .int .i64 0) rfl;have z2:=g7.2.cell 2 (v:= .int .i64 0) rfl;have z3:=g7.2.cell 3 (v:= .int .i64 0) rfl;have f0:=g7.2.fz 0;have f1:=g7.2.fz 1;have f2:=g7.2.fz 2
     have f3:=g7.2.fz 3;refine jjab aZ7 (fun K hK=>?_)
     go_simp;refine hK _ _ (.inl rfl) (jjad (by kernel_rfl) (NoPanic.normal ?_))
     try simp only[Act.put,sA,sB,sC]
     go_wp2;go_meet
     case rel=>exact twoEnd gh g6 g7 hne
   ·
    go_simp;have h54:Q3 W ((w0.alloc (.cells #[.int .i64 0,.int .i64 0,.int .i64 0,.int .i64 0] 60)).alloc (.cells #[.int .i64 0,.int .i64 0,.int .i64 0,.int .i64 0] 60)) x y:=h39.alloc _;have n55:NewR W ((w0.alloc (.cells #[.int .i64 0,.int .i64 0,.int .i64 0,.int .i64 0] 60)).alloc (.cells #[.int .i64 0,.int .i64 0,.int .i64 0,.int .i64 0] 60)) (w0.heap.size):=n40.alloc _
    have n56:NewR W ((w0.alloc (.cells #[.int .i64 0,.int .i64 0,.int .i64 0,.int .i64 0] 60)).alloc (.cells #[.int .i64 0,.int .i64 0,.int .i64 0,.int .i64 0] 60)) (w0.heap.size+1):=h39.new1 (by simp);have hne:w0.heap.size≠w0.heap.size+1:=by have:=n40.2.lt;(try simp only[World.size_alloc]at this);omega
    refine hK _ _ (.inr h54) ?_
    try simp only[Act.put,sA,sB,sC]
    refine jjab aZ1 (fun K hK=>?_)
    go_simp;go_fit (jjap _ _ _ _ _);rintro e v57 ⟨rfl,hs57,hb57,hd57⟩
    have h57:Q3 W v57 x y:=h54.next hb57 hd57;have n58:NewR W v57 (w0.heap.size):=n55.next hb57;have n59:NewR W v57 (w0.heap.size+1):=n56.next hb57;clear hb57 hd57 hs57;go_simp;refine hK _ _ (.inr h57) ?_
    try simp only[Act.put,sA,sB,sC]
    refine jjab aZ3 (fun K hK=>?_)
    go_simp;go_fit (jjap _ _ _ _ _);rintro e v60 ⟨rfl,hs60,hb60,hd60⟩
    have h60:Q3 W v60 x y:=h57.next hb60 hd60;have n61:NewR W v60 (w0.heap.size):=n58.next hb60;have n62:NewR W v60 (w0.heap.size+1):=n59.next hb60;clear hb60 hd60 hs60;go_simp;refine hK _ _ (.inr h60) ?_
    try simp only[Act.put,sA,sB,sC]
    have n6:=n61;have n7:=n62;have hh:=h60;generalize hwl:v60=wl at n6 n7 hh ⊢;generalize w0.heap.size+1=b7 at n6 n7 hne ⊢;generalize w0.heap.size=b6 at n6 n7 hne ⊢;have z0:=n6.2.cell 0 (v:= .int .i64 0) rfl;have z1:=n6.2.cell 1 (v:= .int .i64 0) rfl;have z2:=n6.2.cell 2 (v:= .int .i64 0) rfl;have z3:=n6.2.cell 3 (v:= .int .i64 0) rfl;have f0:=n6.2.fz 0;have f1:=n6.2.fz 1;have f2:=n6.2.fz 2
    have f3:=n6.2.fz 3;refine jjab aZ6 (fun K hK=>?_)
    go_simp;have g6:=n6.put hne (x:=x.1) (y:=x.2.1) (z:=x.2.2.2) (u:=x.2.2.1);have g7:=n7.keep n6.1 hne (x:=x.1) (y:=x.2.1) (z:=x.2.2.2) (u:=x.2.2.1);have gh:=hh.put n6.1 x.1 x.2.1 x.2.2.2 x.2.2.1;refine hK _ _ (.inr gh) ?_
    try simp only[Act.put,sA,sB,sC]
    show AnyL _ _ _ _ _ _ _ _ _ (put4 wl b6 x.1 x.2.1 x.2.2.2 x.2.2.1);generalize put4 wl b6 x.1 x.2.1 x.2.2.2 x.2.2.1=wm at g6 g7 gh ⊢;clear z0 z1 z2 z3 f0 f1 f2 f3;have z0:=g7.2.cell 0 (v:= .int .i64 0) rfl;have z1:=g7.2.cell 1 (v:= .int .i64 0) rfl;have z2:=g7.2.cell 2 (v:= .int .i64 0) rfl;have z3:=g7.2.cell 3 (v:= .int .i64 0) rfl;have f0:=g7.2.fz 0;have f1:=g7.2.fz 1;have f2:=g7.2.fz 2
    have f3:=g7.2.fz 3;refine jjab aZ7 (fun K hK=>?_)
    go_simp;refine hK _ _ (.inl rfl) (jjad (by kernel_rfl) (NoPanic.normal ?_))
    try simp only[Act.put,sA,sB,sC]
    go_wp2;go_meet
    case rel=>exact twoEnd gh g6 g7 hne
  ·
   go_simp;have h63:Q3 W (w0.alloc (.cells #[.int .i64 0,.int .i64 0,.int .i64 0,.int .i64 0] 60)) x y:=H0.alloc _;have n64:NewR W (w0.alloc (.cells #[.int .i64 0,.int .i64 0,.int .i64 0,.int .i64 0] 60)) (w0.heap.size):=H0.new1 (by simp);refine hK _ _ (.inr h63) ?_
   try simp only[Act.put,sA,sB,sC]
   refine jjbp (rs:=[1,4]) (by kernel_rfl) (by simp) (List.forall_mem_cons.2 ⟨⟨_,aZ1,rfl,fun K hK=>?_⟩,List.forall_mem_cons.2 ⟨⟨_,aZ4,rfl,fun K hK=>?_⟩,fun _ h=>absurd h (by simp)⟩⟩)
   ·
    go_simp;go_fit (jjap _ _ _ _ _);rintro e v65 ⟨rfl,hs65,hb65,hd65⟩
    have h65:Q3 W v65 x y:=h63.next hb65 hd65;have n66:NewR W v65 (w0.heap.size):=n64.next hb65;clear hb65 hd65 hs65;go_simp;refine hK _ _ (.inr h65) ?_
    try simp only[Act.put,sA,sB,sC]
    refine jjbp (rs:=[3,4]) (by kernel_rfl) (by simp) (List.forall_mem_cons.2 ⟨⟨_,aZ3,rfl,fun K hK=>?_⟩,List.forall_mem_cons.2 ⟨⟨_,aZ4,rfl,fun K hK=>?_⟩,fun _ h=>absurd h (by simp)⟩⟩)
    ·
     go_simp;go_fit (jjap _ _ _ _ _);rintro e v67 ⟨rfl,hs67,hb67,hd67⟩
     have h67:Q3 W v67 x y:=h65.next hb67 hd67;have n68:NewR W v67 (w0.heap.size):=n66.next hb67;clear hb67 hd67 hs67;go_simp;refine hK _ _ (.inr h67) ?_
     try simp only[Act.put,sA,sB,sC]
     refine jjab aZ4 (fun K hK=>?_)
     go_simp;have h69:Q3 W (v67.alloc (.cells #[.int .i64 0,.int .i64 0,.int .i64 0,.int .i64 0] 60)) x y:=h67.alloc _;have n70:NewR W (v67.alloc (.cells #[.int .i64 0,.int .i64 0,.int .i64 0,.int .i64 0] 60)) (w0.heap.size):=n68.alloc _;have n71:NewR W (v67.alloc (.cells #[.int .i64 0,.int .i64 0,.int .i64 0,.int .i64 0] 60)) (v67.heap.size):=h67.new1 (by simp)
     have hne:v67.heap.size≠w0.heap.size:=by have:=n68.2.lt;(try simp only[World.size_alloc]at this);omega
     refine hK _ _ (.inr h69) ?_
     try simp only[Act.put,sA,sB,sC]
     have n6:=n71;have n7:=n70;have hh:=h69;generalize (v67.alloc (.cells #[.int .i64 0,.int .i64 0,.int .i64 0,.int .i64 0] 60))=wl at n6 n7 hh ⊢;generalize v67.heap.size=b6 at n6 n7 hne ⊢;generalize w0.heap.size=b7 at n6 n7 hne ⊢;have z0:=n6.2.cell 0 (v:= .int .i64 0) rfl;have z1:=n6.2.cell 1 (v:= .int .i64 0) rfl;have z2:=n6.2.cell 2 (v:= .int .i64 0) rfl
     have z3:=n6.2.cell 3 (v:= .int .i64 0) rfl;have f0:=n6.2.fz 0;have f1:=n6.2.fz 1;have f2:=n6.2.fz 2;have f3:=n6.2.fz 3;refine jjab aZ6 (fun K hK=>?_)
     go_simp;have g6:=n6.put hne (x:=x.1) (y:=x.2.1) (z:=x.2.2.2) (u:=x.2.2.1);have g7:=n7.keep n6.1 hne (x:=x.1) (y:=x.2.1) (z:=x.2.2.2) (u:=x.2.2.1);have gh:=hh.put n6.1 x.1 x.2.1 x.2.2.2 x.2.2.1;refine hK _ _ (.inr gh) ?_
     try simp only[Act.put,sA,sB,sC]
     show AnyL _ _ _ _ _ _ _ _ _ (put4 wl b6 x.1 x.2.1 x.2.2.2 x.2.2.1);generalize put4 wl b6 x.1 x.2.1 x.2.2.2 x.2.2.1=wm at g6 g7 gh ⊢;clear z0 z1 z2 z3 f0 f1 f2 f3;have z0:=g7.2.cell 0 (v:= .int .i64 0) rfl;have z1:=g7.2.cell 1 (v:= .int .i64 0) rfl;have z2:=g7.2.cell 2 (v:= .int .i64 0) rfl;have z3:=g7.2.cell 3 (v:= .int .i64 0) rfl;have f0:=g7.2.fz 0;have f1:=g7.2.fz 1;have f2:=g7.2.fz 2
     have f3:=g7.2.fz 3;refine jjab aZ7 (fun K hK=>?_)
     go_simp;refine hK _ _ (.inl rfl) (jjad (by kernel_rfl) (NoPanic.normal ?_))
     try simp only[Act.put,sA,sB,sC]
     go_wp2;go_meet
     case rel=>exact twoEnd gh g6 g7 hne
    ·
     go_simp;have h72:Q3 W (v65.alloc (.cells #[.int .i64 0,.int .i64 0,.int .i64 0,.int .i64 0] 60)) x y:=h65.alloc _;have n73:NewR W (v65.alloc (.cells #[.int .i64 0,.int .i64 0,.int .i64 0,.int .i64 0] 60)) (w0.heap.size):=n66.alloc _;have n74:NewR W (v65.alloc (.cells #[.int .i64 0,.int .i64 0,.int .i64 0,.int .i64 0] 60)) (v65.heap.size):=h65.new1 (by simp)
     have hne:v65.heap.size≠w0.heap.size:=by have:=n66.2.lt;(try simp only[World.size_alloc]at this);omega
     refine hK _ _ (.inr h72) ?_
     try simp only[Act.put,sA,sB,sC]
     refine jjab aZ3 (fun K hK=>?_)
     go_simp;go_fit (jjap _ _ _ _ _);rintro e v75 ⟨rfl,hs75,hb75,hd75⟩
     have h75:Q3 W v75 x y:=h72.next hb75 hd75;have n76:NewR W v75 (v65.heap.size):=n74.next hb75;have n77:NewR W v75 (w0.heap.size):=n73.next hb75;clear hb75 hd75 hs75;go_simp;refine hK _ _ (.inr h75) ?_
     try simp only[Act.put,sA,sB,sC]
     have n6:=n76;have n7:=n77;have hh:=h75;generalize hwl:v75=wl at n6 n7 hh ⊢;generalize v65.heap.size=b6 at n6 n7 hne ⊢;generalize w0.heap.size=b7 at n6 n7 hne ⊢;have z0:=n6.2.cell 0 (v:= .int .i64 0) rfl;have z1:=n6.2.cell 1 (v:= .int .i64 0) rfl;have z2:=n6.2.cell 2 (v:= .int .i64 0) rfl;have z3:=n6.2.cell 3 (v:= .int .i64 0) rfl;have f0:=n6.2.fz 0;have f1:=n6.2.fz 1;have f2:=n6.2.fz 2
     have f3:=n6.2.fz 3;refine jjab aZ6 (fun K hK=>?_)
     go_simp;have g6:=n6.put hne (x:=x.1) (y:=x.2.1) (z:=x.2.2.2) (u:=x.2.2.1);have g7:=n7.keep n6.1 hne (x:=x.1) (y:=x.2.1) (z:=x.2.2.2) (u:=x.2.2.1);have gh:=hh.put n6.1 x.1 x.2.1 x.2.2.2 x.2.2.1;refine hK _ _ (.inr gh) ?_
     try simp only[Act.put,sA,sB,sC]
     show AnyL _ _ _ _ _ _ _ _ _ (put4 wl b6 x.1 x.2.1 x.2.2.2 x.2.2.1);generalize put4 wl b6 x.1 x.2.1 x.2.2.2 x.2.2.1=wm at g6 g7 gh ⊢;clear z0 z1 z2 z3 f0 f1 f2 f3;have z0:=g7.2.cell 0 (v:= .int .i64 0) rfl;have z1:=g7.2.cell 1 (v:= .int .i64 0) rfl;have z2:=g7.2.cell 2 (v:= .int .i64 0) rfl;have z3:=g7.2.cell 3 (v:= .int .i64 0) rfl;have f0:=g7.2.fz 0;have f1:=g7.2.fz 1;have f2:=g7.2.fz 2
     have f3:=g7.2.fz 3;refine jjab aZ7 (fun K hK=>?_)
     go_simp;refine hK _ _ (.inl rfl) (jjad (by kernel_rfl) (NoPanic.normal ?_))
     try simp only[Act.put,sA,sB,sC]
     go_wp2;go_meet
     case rel=>exact twoEnd gh g6 g7 hne
   ·
    go_simp;have h78:Q3 W ((w0.alloc (.cells #[.int .i64 0,.int .i64 0,.int .i64 0,.int .i64 0] 60)).alloc (.cells #[.int .i64 0,.int .i64 0,.int .i64 0,.int .i64 0] 60)) x y:=h63.alloc _;have n79:NewR W ((w0.alloc (.cells #[.int .i64 0,.int .i64 0,.int .i64 0,.int .i64 0] 60)).alloc (.cells #[.int .i64 0,.int .i64 0,.int .i64 0,.int .i64 0] 60)) (w0.heap.size):=n64.alloc _
    have n80:NewR W ((w0.alloc (.cells #[.int .i64 0,.int .i64 0,.int .i64 0,.int .i64 0] 60)).alloc (.cells #[.int .i64 0,.int .i64 0,.int .i64 0,.int .i64 0] 60)) (w0.heap.size+1):=h63.new1 (by simp);have hne:w0.heap.size+1≠w0.heap.size:=by have:=n64.2.lt;(try simp only[World.size_alloc]at this);omega
    refine hK _ _ (.inr h78) ?_
    try simp only[Act.put,sA,sB,sC]
    refine jjab aZ1 (fun K hK=>?_)
    go_simp;go_fit (jjap _ _ _ _ _);rintro e v81 ⟨rfl,hs81,hb81,hd81⟩
    have h81:Q3 W v81 x y:=h78.next hb81 hd81;have n82:NewR W v81 (w0.heap.size+1):=n80.next hb81;have n83:NewR W v81 (w0.heap.size):=n79.next hb81;clear hb81 hd81 hs81;go_simp;refine hK _ _ (.inr h81) ?_
    try simp only[Act.put,sA,sB,sC]
    refine jjab aZ3 (fun K hK=>?_)
    go_simp;go_fit (jjap _ _ _ _ _);rintro e v84 ⟨rfl,hs84,hb84,hd84⟩
    have h84:Q3 W v84 x y:=h81.next hb84 hd84;have n85:NewR W v84 (w0.heap.size+1):=n82.next hb84;have n86:NewR W v84 (w0.heap.size):=n83.next hb84;clear hb84 hd84 hs84;go_simp;refine hK _ _ (.inr h84) ?_
    try simp only[Act.put,sA,sB,sC]
    have n6:=n85;have n7:=n86;have hh:=h84;generalize hwl:v84=wl at n6 n7 hh ⊢;generalize w0.heap.size+1=b6 at n6 n7 hne ⊢;generalize w0.heap.size=b7 at n6 n7 hne ⊢;have z0:=n6.2.cell 0 (v:= .int .i64 0) rfl;have z1:=n6.2.cell 1 (v:= .int .i64 0) rfl;have z2:=n6.2.cell 2 (v:= .int .i64 0) rfl;have z3:=n6.2.cell 3 (v:= .int .i64 0) rfl;have f0:=n6.2.fz 0;have f1:=n6.2.fz 1;have f2:=n6.2.fz 2
    have f3:=n6.2.fz 3;refine jjab aZ6 (fun K hK=>?_)
    go_simp;have g6:=n6.put hne (x:=x.1) (y:=x.2.1) (z:=x.2.2.2) (u:=x.2.2.1);have g7:=n7.keep n6.1 hne (x:=x.1) (y:=x.2.1) (z:=x.2.2.2) (u:=x.2.2.1);have gh:=hh.put n6.1 x.1 x.2.1 x.2.2.2 x.2.2.1;refine hK _ _ (.inr gh) ?_
    try simp only[Act.put,sA,sB,sC]
    show AnyL _ _ _ _ _ _ _ _ _ (put4 wl b6 x.1 x.2.1 x.2.2.2 x.2.2.1);generalize put4 wl b6 x.1 x.2.1 x.2.2.2 x.2.2.1=wm at g6 g7 gh ⊢;clear z0 z1 z2 z3 f0 f1 f2 f3;have z0:=g7.2.cell 0 (v:= .int .i64 0) rfl;have z1:=g7.2.cell 1 (v:= .int .i64 0) rfl;have z2:=g7.2.cell 2 (v:= .int .i64 0) rfl;have z3:=g7.2.cell 3 (v:= .int .i64 0) rfl;have f0:=g7.2.fz 0;have f1:=g7.2.fz 1;have f2:=g7.2.fz 2
    have f3:=g7.2.fz 3;refine jjab aZ7 (fun K hK=>?_)
    go_simp;refine hK _ _ (.inl rfl) (jjad (by kernel_rfl) (NoPanic.normal ?_))
    try simp only[Act.put,sA,sB,sC]
    go_wp2;go_meet
    case rel=>exact twoEnd gh g6 g7 hne
  -- END
 case rest=>
  obtain⟨b6,b7,rfl,rfl,⟨x0,x1,x2,x3⟩,⟨y0,y1,y2,y3⟩,hb,hd⟩:=hcut
  have HX:Held8 W wc b6 b7 x y:=⟨x0,x1,x2,x3,y0,y1,y2,y3,hb,hd⟩
  have c0:=(hb.cell (p:=⟨K,0,none⟩) hK).trans c0;have c1:=(hb.cell (p:=⟨K,1,none⟩) hK).trans c1;have c2:=(hb.cell (p:=⟨K,2,none⟩) hK).trans c2;have c3:=(hb.cell (p:=⟨K,3,none⟩) hK).trans c3;clear hb hd;cases s
  ·obtain ⟨rfl,rfl⟩:k0=0∧k1=1:=by simpa using hs
   clear hs;have i0:∀ w:World,(Instr.index 61 (.agg #[.int .i64 0,.int .i64 1,.int .i64 2,.int .i64 3]) (.int .i64 0)).run Tryz.prog w= .ok (.int .i64 0) w:=fun _=>by kernel_rfl
   have i1:∀ w:World,(Instr.index 61 (.agg #[.int .i64 0,.int .i64 1,.int .i64 2,.int .i64 3]) (.int .i64 1)).run Tryz.prog w= .ok (.int .i64 1) w:=fun _=>by kernel_rfl
   have i2:∀ w:World,(Instr.index 61 (.agg #[.int .i64 0,.int .i64 1,.int .i64 2,.int .i64 3]) (.int .i64 2)).run Tryz.prog w= .ok (.int .i64 2) w:=fun _=>by kernel_rfl
   have i3:∀ w:World,(Instr.index 61 (.agg #[.int .i64 0,.int .i64 1,.int .i64 2,.int .i64 3]) (.int .i64 3)).run Tryz.prog w= .ok (.int .i64 3) w:=fun _=>by kernel_rfl
   by_cases e0:cmpI x.1 y.1=0
   ·have h0:Hid (cmpI x.1 y.1=0):=e0
    clear e0;by_cases e1:cmpI x.2.1 y.2.1=0
    ·have h1:Hid (cmpI x.2.1 y.2.1=0):=e1
     clear e1;by_cases e2:cmpI x.2.2.2 y.2.2.2=0
     ·have h2:Hid (cmpI x.2.2.2 y.2.2.2=0):=e2
      clear e2;by_cases e3:cmpI x.2.2.1 y.2.2.1=0
      ·have h3:Hid (cmpI x.2.2.1 y.2.2.1=0):=e3
       clear e3;have HR:Hid (cmpS false x y=0):=by show _=_;simp only[cmpS,orI,h0.out,h1.out,h2.out,h3.out];rfl
       go_wp2;refine wp_loop_rounds 5 ?_;rw[rounds_succ]
       go_wp2;go_quiet (first | (go_at_call 128;(with_reducible refine Calls.quiet_of (compareQ _ _ _ _ (by with_reducible assumption)))));go_wp2;have X1:Held8 W (wc.drewN nq) b6 b7 x y:=HX.drewN nq;generalize wc.drewN nq=w_1 at X1 ⊢;clear x0 x1 x2 x3 y0 y1 y2 y3;obtain⟨x0,x1,x2,x3,y0,y1,y2,y3,_,_⟩:=id X1
       rw[rounds_succ];go_wp2;go_quiet (first | (go_at_call 128;(with_reducible refine Calls.quiet_of (compareQ _ _ _ _ (by with_reducible assumption)))));go_wp2;have X2:Held8 W (w_1.drewN nq) b6 b7 x y:=X1.drewN nq;generalize w_1.drewN nq=w_2 at X2 ⊢;clear x0 x1 x2 x3 y0 y1 y2 y3;obtain⟨x0,x1,x2,x3,y0,y1,y2,y3,_,_⟩:=id X2
       rw[rounds_succ];go_wp2;go_quiet (first | (go_at_call 128;(with_reducible refine Calls.quiet_of (compareQ _ _ _ _ (by with_reducible assumption)))));go_wp2;have X3:Held8 W (w_2.drewN nq) b6 b7 x y:=X2.drewN nq;generalize w_2.drewN nq=w_3 at X3 ⊢;clear x0 x1 x2 x3 y0 y1 y2 y3;obtain⟨x0,x1,x2,x3,y0,y1,y2,y3,_,_⟩:=id X3
       rw[rounds_succ];go_wp2;go_quiet (first | (go_at_call 128;(with_reducible refine Calls.quiet_of (compareQ _ _ _ _ (by with_reducible assumption)))));go_wp2;have X4:Held8 W (w_3.drewN nq) b6 b7 x y:=X3.drewN nq;generalize w_3.drewN nq=w_4 at X4 ⊢;clear x0 x1 x2 x3 y0 y1 y2 y3;obtain⟨x0,x1,x2,x3,y0,y1,y2,y3,_,_⟩:=id X4
       rw[rounds_succ];go_wp2;go_ret;exact⟨jja8 (by rw[HR.out]),X4.below,X4.drawn⟩
      ·generalize hr:cmpI x.2.2.1 y.2.2.1=r at e3
       have h3:Hid (cmpI x.2.2.1 y.2.2.1=r):=hr;have hne:(r !=0)=true:=by simpa using e3
       have HR:Hid (cmpS false x y=r):=by show _=_;simp[cmpS,orI,h0.out,h1.out,h2.out,h3.out,e3]
       clear hr;go_wp2;refine wp_loop_rounds 5 ?_;rw[rounds_succ]
       go_wp2;go_quiet (first | (go_at_call 128;(with_reducible refine Calls.quiet_of (compareQ _ _ _ _ (by with_reducible assumption)))));go_wp2;have X1:Held8 W (wc.drewN nq) b6 b7 x y:=HX.drewN nq;generalize wc.drewN nq=w_1 at X1 ⊢;clear x0 x1 x2 x3 y0 y1 y2 y3;obtain⟨x0,x1,x2,x3,y0,y1,y2,y3,_,_⟩:=id X1
       rw[rounds_succ];go_wp2;go_quiet (first | (go_at_call 128;(with_reducible refine Calls.quiet_of (compareQ _ _ _ _ (by with_reducible assumption)))));go_wp2;have X2:Held8 W (w_1.drewN nq) b6 b7 x y:=X1.drewN nq;generalize w_1.drewN nq=w_2 at X2 ⊢;clear x0 x1 x2 x3 y0 y1 y2 y3;obtain⟨x0,x1,x2,x3,y0,y1,y2,y3,_,_⟩:=id X2
       rw[rounds_succ];go_wp2;go_quiet (first | (go_at_call 128;(with_reducible refine Calls.quiet_of (compareQ _ _ _ _ (by with_reducible assumption)))));go_wp2;have X3:Held8 W (w_2.drewN nq) b6 b7 x y:=X2.drewN nq;generalize w_2.drewN nq=w_3 at X3 ⊢;clear x0 x1 x2 x3 y0 y1 y2 y3;obtain⟨x0,x1,x2,x3,y0,y1,y2,y3,_,_⟩:=id X3
       rw[rounds_succ];go_wp2;go_quiet (first | (go_at_call 128;(with_reducible refine Calls.quiet_of (compareQ _ _ _ _ (by with_reducible assumption)))));go_wp2;go_ret;exact⟨jja8 (by rw[HR.out]),(X3.drewN _).below,(X3.drewN _).drawn⟩
     ·generalize hr:cmpI x.2.2.2 y.2.2.2=r at e2
      have h2:Hid (cmpI x.2.2.2 y.2.2.2=r):=hr;have hne:(r !=0)=true:=by simpa using e2
      have HR:Hid (cmpS false x y=r):=by show _=_;simp[cmpS,orI,h0.out,h1.out,h2.out,e2]
      clear hr;go_wp2;refine wp_loop_rounds 5 ?_;rw[rounds_succ]
      go_wp2;go_quiet (first | (go_at_call 128;(with_reducible refine Calls.quiet_of (compareQ _ _ _ _ (by with_reducible assumption)))));go_wp2;have X1:Held8 W (wc.drewN nq) b6 b7 x y:=HX.drewN nq;generalize wc.drewN nq=w_1 at X1 ⊢;clear x0 x1 x2 x3 y0 y1 y2 y3;obtain⟨x0,x1,x2,x3,y0,y1,y2,y3,_,_⟩:=id X1
      rw[rounds_succ];go_wp2;go_quiet (first | (go_at_call 128;(with_reducible refine Calls.quiet_of (compareQ _ _ _ _ (by with_reducible assumption)))));go_wp2;have X2:Held8 W (w_1.drewN nq) b6 b7 x y:=X1.drewN nq;generalize w_1.drewN nq=w_2 at X2 ⊢;clear x0 x1 x2 x3 y0 y1 y2 y3;obtain⟨x0,x1,x2,x3,y0,y1,y2,y3,_,_⟩:=id X2
      rw[rounds_succ];go_wp2;go_quiet (first | (go_at_call 128;(with_reducible refine Calls.quiet_of (compareQ _ _ _ _ (by with_reducible assumption)))));go_wp2;go_ret;exact⟨jja8 (by rw[HR.out]),(X2.drewN _).below,(X2.drewN _).drawn⟩
    ·generalize hr:cmpI x.2.1 y.2.1=r at e1
     have h1:Hid (cmpI x.2.1 y.2.1=r):=hr;have hne:(r !=0)=true:=by simpa using e1
     have HR:Hid (cmpS false x y=r):=by show _=_;simp[cmpS,orI,h0.out,h1.out,e1]
     clear hr;go_wp2;refine wp_loop_rounds 5 ?_;rw[rounds_succ]
     go_wp2;go_quiet (first | (go_at_call 128;(with_reducible refine Calls.quiet_of (compareQ _ _ _ _ (by with_reducible assumption)))));go_wp2;have X1:Held8 W (wc.drewN nq) b6 b7 x y:=HX.drewN nq;generalize wc.drewN nq=w_1 at X1 ⊢;clear x0 x1 x2 x3 y0 y1 y2 y3;obtain⟨x0,x1,x2,x3,y0,y1,y2,y3,_,_⟩:=id X1
     rw[rounds_succ];go_wp2;go_quiet (first | (go_at_call 128;(with_reducible refine Calls.quiet_of (compareQ _ _ _ _ (by with_reducible assumption)))));go_wp2;go_ret;exact⟨jja8 (by rw[HR.out]),(X1.drewN _).below,(X1.drewN _).drawn⟩
   ·generalize hr:cmpI x.1 y.1=r at e0
    have h0:Hid (cmpI x.1 y.1=r):=hr;have hne:(r !=0)=true:=by simpa using e0
    have HR:Hid (cmpS false x y=r):=by show _=_;simp[cmpS,orI,h0.out,e0]
    clear hr;go_wp2;refine wp_loop_rounds 5 ?_;rw[rounds_succ]
    go_wp2;go_quiet (first | (go_at_call 128;(with_reducible refine Calls.quiet_of (compareQ _ _ _ _ (by with_reducible assumption)))));go_wp2;go_ret;exact⟨jja8 (by rw[HR.out]),(HX.drewN _).below,(HX.drewN _).drawn⟩
  ·obtain ⟨rfl,rfl⟩:k0=1∧k1=0:=by simpa using hs
   clear hs;have i0:∀ w:World,(Instr.index 61 (.agg #[.int .i64 1,.int .i64 0,.int .i64 2,.int .i64 3]) (.int .i64 0)).run Tryz.prog w= .ok (.int .i64 1) w:=fun _=>by kernel_rfl
   have i1:∀ w:World,(Instr.index 61 (.agg #[.int .i64 1,.int .i64 0,.int .i64 2,.int .i64 3]) (.int .i64 1)).run Tryz.prog w= .ok (.int .i64 0) w:=fun _=>by kernel_rfl
   have i2:∀ w:World,(Instr.index 61 (.agg #[.int .i64 1,.int .i64 0,.int .i64 2,.int .i64 3]) (.int .i64 2)).run Tryz.prog w= .ok (.int .i64 2) w:=fun _=>by kernel_rfl
   have i3:∀ w:World,(Instr.index 61 (.agg #[.int .i64 1,.int .i64 0,.int .i64 2,.int .i64 3]) (.int .i64 3)).run Tryz.prog w= .ok (.int .i64 3) w:=fun _=>by kernel_rfl
   by_cases e0:cmpI x.2.1 y.2.1=0
   ·have h0:Hid (cmpI x.2.1 y.2.1=0):=e0
    clear e0;by_cases e1:cmpI x.1 y.1=0
    ·have h1:Hid (cmpI x.1 y.1=0):=e1
     clear e1;by_cases e2:cmpI x.2.2.2 y.2.2.2=0
     ·have h2:Hid (cmpI x.2.2.2 y.2.2.2=0):=e2
      clear e2;by_cases e3:cmpI x.2.2.1 y.2.2.1=0
      ·have h3:Hid (cmpI x.2.2.1 y.2.2.1=0):=e3
       clear e3;have HR:Hid (cmpS true x y=0):=by show _=_;simp only[cmpS,orI,h0.out,h1.out,h2.out,h3.out];rfl
       go_wp2;refine wp_loop_rounds 5 ?_;rw[rounds_succ]
       go_wp2;go_quiet (first | (go_at_call 128;(with_reducible refine Calls.quiet_of (compareQ _ _ _ _ (by with_reducible assumption)))));go_wp2;have X1:Held8 W (wc.drewN nq) b6 b7 x y:=HX.drewN nq;generalize wc.drewN nq=w_1 at X1 ⊢;clear x0 x1 x2 x3 y0 y1 y2 y3;obtain⟨x0,x1,x2,x3,y0,y1,y2,y3,_,_⟩:=id X1
       rw[rounds_succ];go_wp2;go_quiet (first | (go_at_call 128;(with_reducible refine Calls.quiet_of (compareQ _ _ _ _ (by with_reducible assumption)))));go_wp2;have X2:Held8 W (w_1.drewN nq) b6 b7 x y:=X1.drewN nq;generalize w_1.drewN nq=w_2 at X2 ⊢;clear x0 x1 x2 x3 y0 y1 y2 y3;obtain⟨x0,x1,x2,x3,y0,y1,y2,y3,_,_⟩:=id X2
       rw[rounds_succ];go_wp2;go_quiet (first | (go_at_call 128;(with_reducible refine Calls.quiet_of (compareQ _ _ _ _ (by with_reducible assumption)))));go_wp2;have X3:Held8 W (w_2.drewN nq) b6 b7 x y:=X2.drewN nq;generalize w_2.drewN nq=w_3 at X3 ⊢;clear x0 x1 x2 x3 y0 y1 y2 y3;obtain⟨x0,x1,x2,x3,y0,y1,y2,y3,_,_⟩:=id X3
       rw[rounds_succ];go_wp2;go_quiet (first | (go_at_call 128;(with_reducible refine Calls.quiet_of (compareQ _ _ _ _ (by with_reducible assumption)))));go_wp2;have X4:Held8 W (w_3.drewN nq) b6 b7 x y:=X3.drewN nq;generalize w_3.drewN nq=w_4 at X4 ⊢;clear x0 x1 x2 x3 y0 y1 y2 y3;obtain⟨x0,x1,x2,x3,y0,y1,y2,y3,_,_⟩:=id X4
       rw[rounds_succ];go_wp2;go_ret;exact⟨jja8 (by rw[HR.out]),X4.below,X4.drawn⟩
      ·generalize hr:cmpI x.2.2.1 y.2.2.1=r at e3
       have h3:Hid (cmpI x.2.2.1 y.2.2.1=r):=hr;have hne:(r !=0)=true:=by simpa using e3
       have HR:Hid (cmpS true x y=r):=by show _=_;simp[cmpS,orI,h0.out,h1.out,h2.out,h3.out,e3]
       clear hr;go_wp2;refine wp_loop_rounds 5 ?_;rw[rounds_succ]
       go_wp2;go_quiet (first | (go_at_call 128;(with_reducible refine Calls.quiet_of (compareQ _ _ _ _ (by with_reducible assumption)))));go_wp2;have X1:Held8 W (wc.drewN nq) b6 b7 x y:=HX.drewN nq;generalize wc.drewN nq=w_1 at X1 ⊢;clear x0 x1 x2 x3 y0 y1 y2 y3;obtain⟨x0,x1,x2,x3,y0,y1,y2,y3,_,_⟩:=id X1
       rw[rounds_succ];go_wp2;go_quiet (first | (go_at_call 128;(with_reducible refine Calls.quiet_of (compareQ _ _ _ _ (by with_reducible assumption)))));go_wp2;have X2:Held8 W (w_1.drewN nq) b6 b7 x y:=X1.drewN nq;generalize w_1.drewN nq=w_2 at X2 ⊢;clear x0 x1 x2 x3 y0 y1 y2 y3;obtain⟨x0,x1,x2,x3,y0,y1,y2,y3,_,_⟩:=id X2
       rw[rounds_succ];go_wp2;go_quiet (first | (go_at_call 128;(with_reducible refine Calls.quiet_of (compareQ _ _ _ _ (by with_reducible assumption)))));go_wp2;have X3:Held8 W (w_2.drewN nq) b6 b7 x y:=X2.drewN nq;generalize w_2.drewN nq=w_3 at X3 ⊢;clear x0 x1 x2 x3 y0 y1 y2 y3;obtain⟨x0,x1,x2,x3,y0,y1,y2,y3,_,_⟩:=id X3
       rw[rounds_succ];go_wp2;go_quiet (first | (go_at_call 128;(with_reducible refine Calls.quiet_of (compareQ _ _ _ _ (by with_reducible assumption)))));go_wp2;go_ret;exact⟨jja8 (by rw[HR.out]),(X3.drewN _).below,(X3.drewN _).drawn⟩
     ·generalize hr:cmpI x.2.2.2 y.2.2.2=r at e2
      have h2:Hid (cmpI x.2.2.2 y.2.2.2=r):=hr;have hne:(r !=0)=true:=by simpa using e2
      have HR:Hid (cmpS true x y=r):=by show _=_;simp[cmpS,orI,h0.out,h1.out,h2.out,e2]
      clear hr;go_wp2;refine wp_loop_rounds 5 ?_;rw[rounds_succ]
      go_wp2;go_quiet (first | (go_at_call 128;(with_reducible refine Calls.quiet_of (compareQ _ _ _ _ (by with_reducible assumption)))));go_wp2;have X1:Held8 W (wc.drewN nq) b6 b7 x y:=HX.drewN nq;generalize wc.drewN nq=w_1 at X1 ⊢;clear x0 x1 x2 x3 y0 y1 y2 y3;obtain⟨x0,x1,x2,x3,y0,y1,y2,y3,_,_⟩:=id X1
      rw[rounds_succ];go_wp2;go_quiet (first | (go_at_call 128;(with_reducible refine Calls.quiet_of (compareQ _ _ _ _ (by with_reducible assumption)))));go_wp2;have X2:Held8 W (w_1.drewN nq) b6 b7 x y:=X1.drewN nq;generalize w_1.drewN nq=w_2 at X2 ⊢;clear x0 x1 x2 x3 y0 y1 y2 y3;obtain⟨x0,x1,x2,x3,y0,y1,y2,y3,_,_⟩:=id X2
      rw[rounds_succ];go_wp2;go_quiet (first | (go_at_call 128;(with_reducible refine Calls.quiet_of (compareQ _ _ _ _ (by with_reducible assumption)))));go_wp2;go_ret;exact⟨jja8 (by rw[HR.out]),(X2.drewN _).below,(X2.drewN _).drawn⟩
    ·generalize hr:cmpI x.1 y.1=r at e1
     have h1:Hid (cmpI x.1 y.1=r):=hr;have hne:(r !=0)=true:=by simpa using e1
     have HR:Hid (cmpS true x y=r):=by show _=_;simp[cmpS,orI,h0.out,h1.out,e1]
     clear hr;go_wp2;refine wp_loop_rounds 5 ?_;rw[rounds_succ]
     go_wp2;go_quiet (first | (go_at_call 128;(with_reducible refine Calls.quiet_of (compareQ _ _ _ _ (by with_reducible assumption)))));go_wp2;have X1:Held8 W (wc.drewN nq) b6 b7 x y:=HX.drewN nq;generalize wc.drewN nq=w_1 at X1 ⊢;clear x0 x1 x2 x3 y0 y1 y2 y3;obtain⟨x0,x1,x2,x3,y0,y1,y2,y3,_,_⟩:=id X1
     rw[rounds_succ];go_wp2;go_quiet (first | (go_at_call 128;(with_reducible refine Calls.quiet_of (compareQ _ _ _ _ (by with_reducible assumption)))));go_wp2;go_ret;exact⟨jja8 (by rw[HR.out]),(X1.drewN _).below,(X1.drewN _).drawn⟩
   ·generalize hr:cmpI x.2.1 y.2.1=r at e0
    have h0:Hid (cmpI x.2.1 y.2.1=r):=hr;have hne:(r !=0)=true:=by simpa using e0
    have HR:Hid (cmpS true x y=r):=by show _=_;simp[cmpS,orI,h0.out,e0]
    clear hr;go_wp2;refine wp_loop_rounds 5 ?_;rw[rounds_succ]
    go_wp2;go_quiet (first | (go_at_call 128;(with_reducible refine Calls.quiet_of (compareQ _ _ _ _ (by with_reducible assumption)))));go_wp2;go_ret;exact⟨jja8 (by rw[HR.out]),(HX.drewN _).below,(HX.drewN _).drawn⟩
end Go.Proofs.YtppkiejhhmahcaaGreatDoor.Wt
