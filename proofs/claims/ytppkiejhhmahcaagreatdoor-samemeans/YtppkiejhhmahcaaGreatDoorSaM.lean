/- Facts, joined. -/
import Derived.Test.YtppkiejhhmahcaaGreatDoorSae
set_option linter.unusedSimpArgs false
set_option linter.unusedVariables false
set_option maxHeartbeats 3200000
set_option maxRecDepth 100000
namespace Go.Proofs.YtppkiejhhmahcaaGreatDoor.Dw
open ChangeShapes WideShapes ChangeAt RowKit Pl Wt
theorem load_wait (B:Nat)(w:World){v:Value}(h:w.cell? ⟨B,0,none⟩=some v):(loadVar 209 ⟨B,0,none⟩).run Tryz.prog w= .ok v w:=by
 simp[loadVar,isAgg,underlying,Tryz.underlying209,h,Result.andThen]
theorem methW_push (B : Nat) (w : World) : Sem.run Tryz.prog (method 372 213 (.pointer (some ⟨B, 0, none⟩)) "Push") w = .ok (227, .pointer (some ⟨B, 0, none⟩)) w := by kernel_rfl
theorem methW_pop (B : Nat) (w : World) : Sem.run Tryz.prog (method 372 213 (.pointer (some ⟨B, 0, none⟩)) "Pop") w = .ok (226, .pointer (some ⟨B, 0, none⟩)) w := by kernel_rfl
theorem methW_len0 (B : Nat) (w : World) : Sem.run Tryz.prog (method 372 213 (.pointer (some ⟨B, 0, none⟩)) "Len") w = Sem.run Tryz.prog (do let v ← loadVar 209 ⟨B, 0, none⟩; pure (174, v)) w := by kernel_rfl
theorem methW_less0 (B : Nat) (w : World) : Sem.run Tryz.prog (method 372 213 (.pointer (some ⟨B, 0, none⟩)) "Less") w = Sem.run Tryz.prog (do let v ← loadVar 209 ⟨B, 0, none⟩; pure (224, v)) w := by kernel_rfl
theorem methW_swap0 (B : Nat) (w : World) : Sem.run Tryz.prog (method 372 213 (.pointer (some ⟨B, 0, none⟩)) "Swap") w = Sem.run Tryz.prog (do let v ← loadVar 209 ⟨B, 0, none⟩; pure (225, v)) w := by kernel_rfl
theorem methW_len {B : Nat} {w : World} {v : Value} (h : w.cell? ⟨B, 0, none⟩ = some v) : Sem.run Tryz.prog (method 372 213 (.pointer (some ⟨B, 0, none⟩)) "Len") w = .ok (174, v) w := by
 rw[methW_len0];simp[load_wait B w h,Sem.run_bind]
theorem methW_less {B : Nat} {w : World} {v : Value} (h : w.cell? ⟨B, 0, none⟩ = some v) : Sem.run Tryz.prog (method 372 213 (.pointer (some ⟨B, 0, none⟩)) "Less") w = .ok (224, v) w := by
 rw[methW_less0];simp[load_wait B w h,Sem.run_bind]
theorem methW_swap {B : Nat} {w : World} {v : Value} (h : w.cell? ⟨B, 0, none⟩ = some v) : Sem.run Tryz.prog (method 372 213 (.pointer (some ⟨B, 0, none⟩)) "Swap") w = .ok (225, v) w := by
 rw[methW_swap0];simp[load_wait B w h,Sem.run_bind]
def encD (a:Ar):List Value:=[.int .i64 a.1,.int .i64 a.2.2.2]
theorem encD_len (a:Ar):(encD a).length=2:=rfl
theorem encD_one (a:Ar):∀ u ∈ encD a,u.oneCell'=true:=by
 intro u hu;simp[encD]at hu;rcases hu with rfl | rfl<;>rfl
def TwoW (w:World)(b o:Nat)(a:Ar):Prop:=w.cell? ⟨b,o,none⟩=some (.int .i64 a.1)∧w.cell? ⟨b,o+1,none⟩=some (.int .i64 a.2.2.2)
theorem jjd9 {w:World}{base:Nat}{e:TypeId}{g n cap j:Nat}{ws:List Ar}(h:w.ownsRow base e 2 (.slice (some ⟨g,0,none⟩) n cap) n (ws.flatMap encD))(hj:j<ws.length):TwoW w g (j*2) (el ws j):=by
 have hc:∀ i u,i<2→(encD (el ws j))[i]? =some u→w.cell? ⟨g,j*2+i,none⟩=some u:=fun i u hi hu=>by
  have:=h.cells (g:=g) rfl (j*2+i) u ((jjas encD_len ws j hj i hi).trans hu);rw[Addr.add_lit,Nat.zero_add]at this;exact this
 exact⟨hc 0 _ (by omega) rfl,hc 1 _ (by omega) rfl⟩
theorem own_fzW {w:World}{base:Nat}{e:TypeId}{s g n cap:Nat}{ws:List Value}(h:w.ownsRow base e s (.slice (some ⟨g,0,none⟩) n cap) n ws)(j:Nat):w.frozen? ⟨g,j,none⟩=false:=by
 rcases h.2 with⟨hv,hn0⟩ | ⟨g',cap',cur,hv,hbg,hg,_⟩
 ·simp at hv
 ·simp only[Value.slice.injEq,Option.some.injEq,Addr.mk.injEq,and_true,true_and]at hv
  obtain⟨rfl,rfl⟩:=hv
  exact Blk.fz (t:=e) hg j
theorem own_someW {w:World}{base:Nat}{e:TypeId}{s:Nat}{v:Value}{n:Nat}{ws:List Value}(h:w.ownsRow base e s v n ws)(hn:0<n):∃ g cap,v= .slice (some ⟨g,0,none⟩) n cap∧g<w.heap.size∧n≤cap∧base≤g:=by
 rcases h.2 with⟨hv,hn0⟩ | ⟨g,cap,cur,rfl,hbg,hg,hnc,_⟩
 ·omega
 ·exact ⟨g,cap,rfl,Blk.lt (t:=e) hg,hnc,hbg⟩
theorem own_slW {w:World}{base:Nat}{e:TypeId}{s:Nat}{v:Value}{n:Nat}{ws:List Value}(h:w.ownsRow base e s v n ws):∃ a cap,v= .slice a n cap:=by
 rcases h.2 with⟨hv,hn0⟩ | ⟨g,cap,cur,rfl,_⟩
 ·subst hn0;exact⟨_,_,hv⟩
 ·exact ⟨_,_,rfl⟩
theorem own_thereW {w:World}{base:Nat}{e:TypeId}{g n cap j:Nat}{ws:List Ar}(h:w.ownsRow base e 2 (.slice (some ⟨g,0,none⟩) n cap) n (ws.flatMap encD))(hj:j<ws.length):w.there g (j*2) 2:=by
 obtain⟨h0,h1⟩:=jjd9 h hj
 intro i hi;refine⟨?_,own_fzW h _⟩
 have:i=0∨i=1:=by omega
 rcases this with rfl | rfl
 ·rw [Nat.add_zero,h0];rfl
 ·rw [h1];rfl
theorem set_wayL {xs:List Ar}{k:Nat}(hk:k<xs.length)(p:Ar):((xs.flatMap encD).set (k*2) (.int .i64 p.1)).set (k*2+1) (.int .i64 p.2.2.2)=(xs.set k p).flatMap encD:=by
  induction xs generalizing k with
  | nil=>simp at hk
  | cons x xs ih=>
    cases k with
    | zero=>simp [encD]
    | succ k=>
      have h4:=ih (k:=k) (by simpa using hk);rw[List.set_cons_succ,List.flatMap_cons,List.flatMap_cons,← h4];have e:∀ (l:List Value) (i:Nat) (v:Value),(encD x++l).set ((k+1)*2+i) v=encD x++l.set (k*2+i) v:=fun l i v=>by
        rw[List.set_append_right _ _ (by rw[encD_len];omega),encD_len];congr 2
        omega
      have e0:=e (xs.flatMap encD) 0 (.int .i64 p.1);have e1:(encD x++List.flatMap encD xs).set ((k+1)*2) (Value.int IntKind.i64 p.1)=encD x++(List.flatMap encD xs).set (k*2) (Value.int IntKind.i64 p.1):=e0;rw[e1,e]
theorem own_setW {w:World}{base:Nat}{e:TypeId}{g n cap j:Nat}{ws:List Ar}(h:w.ownsRow base e 2 (.slice (some ⟨g,0,none⟩) n cap) n (ws.flatMap encD))(hj:j<ws.length)(x:Ar):
  (w.setCells g (j*2) (encD x)).ownsRow base e 2 (.slice (some ⟨g,0,none⟩) n cap) n ((ws.set j x).flatMap encD):=by
 have hlen:=h.1;rw[jjai encD_len]at hlen;rcases h.2 with⟨hv,hn0⟩ | ⟨g',cap',cur,hv,hbg,hg,hnc,hcm,hcs,htake⟩
 ·simp at hv
 ·simp only[Value.slice.injEq,Option.some.injEq,Addr.mk.injEq,and_true,true_and]at hv
  obtain⟨rfl,rfl⟩:=hv
  have hB:Blk w g cur e:=hg;refine⟨by rw[jjai encD_len,List.length_set];exact hlen,.inr ⟨g,cap,(cur.setIfInBounds (j*2) (.int .i64 x.1)).setIfInBounds (j*2+1) (.int .i64 x.2.2.2),rfl,hbg,?_,hnc,hcm,by simpa using hcs,?_⟩⟩
  ·have:=(hB.set (j*2) (.int .i64 x.1)).set (j*2+1) (.int .i64 x.2.2.2)
   exact this
  ·rw [Array.toList_setIfInBounds,Array.toList_setIfInBounds,List.take_set,List.take_set,htake]
   exact set_wayL hj x
theorem gSetW (w:World)(g o:Nat)(x:Ar):w.grownBy (w.setCells g o (encD x)) (some g):=
 gTrans (gSet w g o (.int .i64 x.1)) (gSet _ g (o+1) (.int .i64 x.2.2.2))
theorem wLen_any (a:Option Addr)(n cap:Nat)(w:World):
  Calls Tryz.prog 174 #[.slice a n cap] w fun e w'=>e= .returned (.int .i64 (n:Int))∧w'=w:=by
 go_enter Tryz.func174,Tryz.ntmps174;go_wp2;go_ret;exact⟨rfl,rfl⟩
theorem wLess_any (g n cap:Nat)(w:World)(x y:Int)(i j:Nat)(hi:i<n)(hj:j<n)(hn:n≤10000000)(ci:w.cell? ⟨g,i*2+1,none⟩=some (.int .i64 x))(cj:w.cell? ⟨g,j*2+1,none⟩=some (.int .i64 y)):
  Calls Tryz.prog 224 #[.slice (some ⟨g,0,none⟩) n cap,.int .i64 (i:Int),.int .i64 (j:Int)] w fun e w'=>e= .returned (.bool (decide (x<y)))∧∃ q,w'=w.drewN q:=by
 go_enter Tryz.func224,Tryz.ntmps224;go_wp2;go_quiet (fail);go_wp2;go_ret;exact⟨rfl,_,rfl⟩
theorem infoWay :(Tryz.prog.info? 211).map (fun i=>(i.zero,i.size,i.bytes))=some (some (.agg #[.int .i64 0,.int .i64 0]),2,16):=by kernel_rfl
theorem infoWaySize :(Tryz.prog.info? 211).map (·.size)=some 2:=by kernel_rfl
def HeldT (_:World):Prop:=True
theorem wSwap_any (g n cap:Nat)(w:World)(x y:Ar)(i j:Nat)(hi:i<n)(hj:j<n)(hn:n≤10000000)(ci:TwoW w g (i*2) x)(cj:TwoW w g (j*2) y)(fi:w.there g (i*2) 2)(fj:w.there g (j*2) 2):
  Calls Tryz.prog 225 #[.slice (some ⟨g,0,none⟩) n cap,.int .i64 (i:Int),.int .i64 (j:Int)] w fun e w'=>e= .returned (.tuple #[])∧w'=(w.drew.setCells g (i*2) (encD y)).setCells g (j*2) (encD x):=by
 have F1:Hid (w.drew.there g (i*2) 2):=fi;have F2:Hid ((w.drew.setCells g (i*2) (encD y)).there g (j*2) 2):=World.there_setCells (w:=w.drew) fj g (i*2) (encD y);obtain⟨W2,hW2⟩:∃ W2,W2=(w.drew.setCells g (i*2) (encD y)).setCells g (j*2) (encD x):=⟨_,rfl⟩
 have HW2:Hid (W2=(w.drew.setCells g (i*2) (encD y)).setCells g (j*2) (encD x)):=hW2;rw[← hW2];clear hW2;obtain⟨x0,x1,x2,x3⟩:=x
 obtain⟨y0,y1,y2,y3⟩:=y
 obtain⟨a0,a3⟩:=ci
 obtain⟨b0,b3⟩:=cj
 simp only at a0 a3 b0 b3;have k1:(0:Int)≤(i:Int):=by omega
 have k2:(i:Int)<(n:Int):=by omega
 have k3:(0:Int)≤(j:Int):=by omega
 have k4:(j:Int)<(n:Int):=by omega
 clear fi fj;have HS:HeldT w.drew:=trivial;go_enter Tryz.func225,Tryz.ntmps225;go_wp2;refine jjaf HeldT 15 (by kernel_rfl) ?_
 refine jjaa (v:=?v0_1) aZ0 ?y0_1 HS ?r0_1
 case y0_1=>intro wx hx;obtain h1:=hx;go_simp;try (with_reducible rfl)
 simp only[Act.put,sA,sB,sC];refine jjaa (v:=?v1_2) aZ1 ?y1_2 HS ?r1_2
 case y1_2=>intro wx hx;obtain h1:=hx;go_simp;try (with_reducible rfl)
 simp only[Act.put,sA,sB,sC];refine jjaa (v:=?v2_3) aZ2 ?y2_3 HS ?r2_3
 case y2_3=>intro wx hx;obtain h1:=hx;go_simp;try (with_reducible rfl)
 simp only[Act.put,sA,sB,sC];refine jjaa (v:=?v3_4) aZ3 ?y3_4 HS ?r3_4
 case y3_4=>intro wx hx;obtain h1:=hx;go_simp;try (with_reducible rfl)
 simp only[Act.put,sA,sB,sC];refine jjaa (v:=?v4_5) aZ4 ?y4_5 HS ?r4_5
 case y4_5=>intro wx hx;obtain h1:=hx;go_simp;try (with_reducible rfl)
 simp only[Act.put,sA,sB,sC];refine jjaa (v:=?v5_6) aZ5 ?y5_6 HS ?r5_6
 case y5_6=>intro wx hx;obtain h1:=hx;go_simp;try (with_reducible rfl)
 simp only[Act.put,sA,sB,sC];refine jjaa (v:=?v6_7) aZ6 ?y6_7 HS ?r6_7
 case y6_7=>intro wx hx;obtain h1:=hx;go_simp;try (with_reducible rfl)
 simp only[Act.put,sA,sB,sC];refine jjaa (v:=?v8_8) aZ8 ?y8_8 HS ?r8_8
 case y8_8=>intro wx hx;obtain h1:=hx;go_simp;try (with_reducible rfl)
 simp only[Act.put,sA,sB,sC];refine jjaa (v:=?v9_9) aZ9 ?y9_9 HS ?r9_9
 case y9_9=>intro wx hx;obtain h1:=hx;go_simp;try (with_reducible rfl)
 simp only[Act.put,sA,sB,sC];refine jjaa (v:=?v10_10) aZ10 ?y10_10 HS ?r10_10
 case y10_10=>intro wx hx;obtain h1:=hx;go_simp;try (with_reducible rfl)
 simp only[Act.put,sA,sB,sC];refine jjbp (rs:=[7,11]) (by kernel_rfl) (by simp) (List.forall_mem_cons.2 ⟨⟨_,aZ7,rfl,fun K hK=>?_⟩,List.forall_mem_cons.2 ⟨⟨_,aZ11,rfl,fun K hK=>?_⟩,fun _ h=>absurd h (by simp)⟩⟩)
 ·go_simp
  refine hK _ _ (.inr trivial) ?_
  try simp only[Act.put,sA,sB,sC]
  refine jjab aZ11 (fun K hK=>?_)
  go_simp;refine hK _ _ (.inr trivial) ?_
  try simp only[Act.put,sA,sB,sC]
  refine jjaa (v:=?v12_11) aZ12 ?y12_11 HS ?r12_11
  case y12_11=>intro wx hx;obtain h1:=hx;go_simp;try (with_reducible rfl)
  simp only[Act.put,sA,sB,sC];refine jjab aZ13 (fun K hK=>?_)
  refine wp_store_mid 211 (.tmp 18) (.tmp 13) rfl g (i*2) #[.int .i64 y0,.int .i64 y3] rfl rfl F1.out infoWaySize (by simp[Value.oneCell']) ?_
  refine hK _ _ (.inr trivial) ?_
  try simp only[Act.put,sA,sB,sC]
  refine jjaa (v:=?v14_12) aZ14 ?y14_12 trivial ?r14_12
  case y14_12=>intro wx hx;obtain h1:=hx;go_simp;try (with_reducible rfl)
  simp only[Act.put,sA,sB,sC];refine jjab aZ15 (fun K hK=>?_)
  refine wp_store_mid 211 (.tmp 19) (.tmp 17) rfl g (j*2) #[.int .i64 x0,.int .i64 x3] rfl rfl F2.out infoWaySize (by simp[Value.oneCell']) ?_
  rw[show (World.setCells (World.setCells w.drew g (i*2) (#[Value.int .i64 y0,.int .i64 y3]:Array Value).toList) g (j*2) (#[Value.int .i64 x0,.int .i64 x3]:Array Value).toList)=W2 from HW2.out.symm];refine hK _ _ (.inl rfl) (jjad (by kernel_rfl) (NoPanic.normal ?_))
  clear a0 a3 b0 b3 F1 F2 HW2 hK;go_end0;exact⟨rfl,rfl⟩
 ·go_simp
  refine hK _ _ (.inr trivial) ?_
  try simp only[Act.put,sA,sB,sC]
  refine jjab aZ7 (fun K hK=>?_)
  go_simp;refine hK _ _ (.inr trivial) ?_
  try simp only[Act.put,sA,sB,sC]
  refine jjaa (v:=?v12_13) aZ12 ?y12_13 HS ?r12_13
  case y12_13=>intro wx hx;obtain h1:=hx;go_simp;try (with_reducible rfl)
  simp only[Act.put,sA,sB,sC];refine jjab aZ13 (fun K hK=>?_)
  refine wp_store_mid 211 (.tmp 18) (.tmp 13) rfl g (i*2) #[.int .i64 y0,.int .i64 y3] rfl rfl F1.out infoWaySize (by simp[Value.oneCell']) ?_
  refine hK _ _ (.inr trivial) ?_
  try simp only[Act.put,sA,sB,sC]
  refine jjaa (v:=?v14_14) aZ14 ?y14_14 trivial ?r14_14
  case y14_14=>intro wx hx;obtain h1:=hx;go_simp;try (with_reducible rfl)
  simp only[Act.put,sA,sB,sC];refine jjab aZ15 (fun K hK=>?_)
  refine wp_store_mid 211 (.tmp 19) (.tmp 17) rfl g (j*2) #[.int .i64 x0,.int .i64 x3] rfl rfl F2.out infoWaySize (by simp[Value.oneCell']) ?_
  rw[show (World.setCells (World.setCells w.drew g (i*2) (#[Value.int .i64 y0,.int .i64 y3]:Array Value).toList) g (j*2) (#[Value.int .i64 x0,.int .i64 x3]:Array Value).toList)=W2 from HW2.out.symm];refine hK _ _ (.inl rfl) (jjad (by kernel_rfl) (NoPanic.normal ?_))
  clear a0 a3 b0 b3 F1 F2 HW2 hK;go_end0;exact⟨rfl,rfl⟩
theorem flat_takeA (ws:List Ar):∀ k,(ws.flatMap encD).take (k*2)=(ws.take k).flatMap encD:=by
  induction ws with
  | nil=>intro k;simp
  | cons x ws ih=>
    intro k;cases k with
    | zero=>simp
    | succ k=>
      rw[List.flatMap_cons,List.take_succ_cons,List.flatMap_cons,← ih k,List.take_append,encD_len,List.take_of_length_le (by rw[encD_len];omega),show (k+1)*2-2=k*2 by omega]
theorem own_cutW {w:World}{base:Nat}{e:TypeId}{a:Option Addr}{n cap k:Nat}{ws:List Ar}(h:w.ownsRow base e 2 (.slice a n cap) n (ws.flatMap encD))(hk:k<n):
  ∃ g,a=some ⟨g,0,none⟩∧n≤cap∧w.ownsRow base e 2 (.slice (some ⟨g,0,none⟩) k cap) k ((ws.take k).flatMap encD):=by
 have hlen:=h.1;rw[jjai encD_len]at hlen;rcases h.2 with⟨hv,hn0⟩ | ⟨g,cap',cur,hv,hbg,hg,hnc,hcm,hcs,htake⟩
 ·omega
 ·simp only[Value.slice.injEq,true_and]at hv
  obtain⟨rfl,rfl⟩:=hv
  refine⟨g,rfl,hnc,?_,.inr ⟨g,cap,cur,rfl,hbg,hg,by omega,hcm,hcs,?_⟩⟩
  ·rw [jjai encD_len,List.length_take];omega
  ·have h1:cur.toList.take (k*2)=(cur.toList.take (n*2)).take (k*2):=by rw[List.take_take];congr 1;omega
   rw[h1,htake,flat_takeA]
theorem assert_way (x0 x3:Int)(w:World):(Instr.typeAssert (.iface 211 (.agg #[.int .i64 x0,.int .i64 x3])) 20 211 false).run Tryz.prog w= .ok (.agg #[.int .i64 x0,.int .i64 x3]) w:=by kernel_rfl
def wayV (x:Ar):Value:= .iface 211 (.agg #[.int .i64 x.1,.int .i64 x.2.2.2])
def HeldW (B:Nat)(v:Value)(w:World):Prop:=w.cell? ⟨B,0,none⟩=some v∧w.frozen? ⟨B,0,none⟩=false
theorem wPop_any (B base:Nat)(v:Value)(hs:List Ar)(n:Nat)(w:World)(hB:Blk w B #[v] 209)(hown:w.ownsRow base 211 2 v hs.length (hs.flatMap encD))(hl:hs.length=n+1)(hn:n≤10000000):
  Calls Tryz.prog 226 #[.pointer (some ⟨B,0,none⟩)] w fun e w'=>e= .returned (wayV (el hs n))∧∃ v',Blk w' B #[v'] 209∧w'.ownsRow base 211 2 v' n ((hs.take n).flatMap encD)∧v'.ownBlock=v.ownBlock∧Turn2 w w' B v.ownBlock:=by
 obtain⟨a,cap,hv⟩:=own_slW hown
 subst hv;rw[hl]at hown hB;obtain⟨g,hga,hnc,hcut⟩:=own_cutW (k:=n) hown (by omega)
 subst hga;obtain⟨c0,c3⟩:=jjd9 hown (j:=n) (by omega)
 have cB:=hB.cell 0 (v:= .slice (some ⟨g,0,none⟩) (n+1) cap) rfl;have fB:=hB.fz 0;have sB:=hB.lt;have hne:some B≠Value.ownBlock (.slice (some ⟨g,0,none⟩) n cap):=jjak hcut hB (by decide);have k1:(0:Int)≤(n:Int):=by omega
 have k2:(n:Int)<(n:Int)+1:=by omega
 have k3:(n:Int)≤(cap:Int):=by omega
 have k5:IntKind.i64.wrap (n:Int)=(n:Int):=wrapI (by omega) (by omega);obtain⟨y,hy⟩:∃ y:Ar,el hs n=y:=⟨_,rfl⟩
 rw[hy]at c0 c3;rw[hy];clear hy;obtain⟨x0,x1,x2,x3⟩:=y
 simp only[wayV]at c0 c3 ⊢;have HO:Hid (((w.setCell ⟨B,0,none⟩ (.slice (some ⟨g,0,none⟩) n cap)).alloc (.cells #[.int .i64 x0,.int .i64 x3] 211)).ownsRow base 211 2 (.slice (some ⟨g,0,none⟩) n cap) n ((hs.take n).flatMap encD)):=(hcut.kept (gSet w B 0 _) (.inr (Ne.symm hne))).alloc _
 have HB:Hid (Blk ((w.setCell ⟨B,0,none⟩ (.slice (some ⟨g,0,none⟩) n cap)).alloc (.cells #[.int .i64 x0,.int .i64 x3] 211)) B #[.slice (some ⟨g,0,none⟩) n cap] 209):=by have h9:=(hB.set 0 (.slice (some ⟨g,0,none⟩) n cap)).alloc (.cells #[.int .i64 x0,.int .i64 x3] 211);exact h9
 have HT:Hid (Turn2 w ((w.setCell ⟨B,0,none⟩ (.slice (some ⟨g,0,none⟩) n cap)).alloc (.cells #[.int .i64 x0,.int .i64 x3] 211)) B (Value.ownBlock (.slice (some ⟨g,0,none⟩) (n+1) cap))):=by
  have h1:Turn2 w (w.setCell ⟨B,0,none⟩ (.slice (some ⟨g,0,none⟩) n cap)) B (Value.ownBlock (.slice (some ⟨g,0,none⟩) (n+1) cap)):=Turn2.set (Turn2.grown (gNew (Below.refl _ _)) B) 0 _;exact h1.trans (Turn2.grown (World.grownBy_alloc _ _ _) B) (.inl rfl)
 rw[hl];clear hown hB hcut hne;go_enter Tryz.func226,Tryz.ntmps226;go_wp2;go_ret;exact⟨rfl,_,HB.out,HO.out,rfl,HT.out⟩
theorem wPush_any (B base:Nat)(v:Value)(hs:List Ar)(q:Ar)(w:World)(hB:Blk w B #[v] 209)(hown:w.ownsRow base 211 2 v hs.length (hs.flatMap encD))(hbase:base≤w.heap.size)(hn:hs.length≤9000000):
  Calls Tryz.prog 227 #[.pointer (some ⟨B,0,none⟩),wayV q] w fun e w'=>e= .returned (.tuple #[])∧∃ v',Blk w' B #[v'] 209∧w'.ownsRow base 211 2 v' (hs++[q]).length ((hs++[q]).flatMap encD)∧Near w v.ownBlock v'∧Turn2 w w' B v.ownBlock:=by
 obtain⟨i1,hi1,hy0,hy1,hy2⟩:=info_parts infoWay
 obtain⟨q0,q1,q2,q3⟩:=q
 obtain⟨a,cap,hv⟩:=own_slW hown
 have HV:Hid (v= .slice a hs.length cap):=hv;have O2:Hid ((w.drew.alloc (.cells #[.int .i64 q0,.int .i64 q3] 211)).ownsRow base 211 2 v hs.length (hs.flatMap encD)):=World.ownsRow.alloc (w:=w.drew) hown _;have B2:Hid (Blk (w.drew.alloc (.cells #[.int .i64 q0,.int .i64 q3] 211)) B #[v] 209):=hB.drew.alloc _
 obtain⟨v4,w4,r4,ho4,hg4,hn4⟩:=jjao (P:=Tryz.prog) (w:=w.drew.alloc (.cells #[.int .i64 q0,.int .i64 q3] 211)) encD_len (by decide) encD_one 209 209 base 211 i1 _ 16 Tryz.underlying209 hi1 hy0 hy1 hy2 rfl _ hs.length (hs.flatMap encD) O2.out _ [(q0,q1,q2,q3)] (oneRow (enc:=encD) w.drew (q0,q1,q2,q3) rfl 211) (by simp;unfold maxLen;omega) (by simp;omega) (by rw[World.size_alloc];exact Nat.le_succ_of_le hbase)
 have B4:Hid (Blk w4 B #[v] 209):=B2.out.grown hg4 (jjak O2.out B2.out (by decide));have hne:some B≠v4.ownBlock:=jjak ho4 B4.out (by decide);have O5:Hid ((w4.setCell ⟨B,0,none⟩ v4).ownsRow base 211 2 v4 (hs++[(q0,q1,q2,q3)]).length ((hs++[(q0,q1,q2,q3)]).flatMap encD)):=by
  show World.ownsRow _ _ _ _ _ _ _;rw[List.length_append,List.flatMap_append];exact ho4.kept (gSet w4 B 0 _) (.inr (Ne.symm hne))
 have B5:Hid (Blk (w4.setCell ⟨B,0,none⟩ v4) B #[v4] 209):=by have h9:=B4.out.set 0 v4;exact h9
 have N5:Hid (Near w v.ownBlock v4):=by
  rcases hn4 with e | ⟨b,e,hb⟩
  ·exact .inl e
  ·exact .inr ⟨b,e,by rw[World.size_alloc]at hb;exact Nat.le_of_succ_le hb⟩
 have T5:Hid (Turn2 w (w4.setCell ⟨B,0,none⟩ v4) B v.ownBlock):=by
  have h1:w.grownBy (w.drew.alloc (.cells #[.int .i64 q0,.int .i64 q3] 211)) v.ownBlock:=gNew ((Below.refl w.heap.size w).drew.alloc (Nat.le_refl _) _);exact Turn2.set (Turn2.grown (gTrans h1 hg4) B) 0 _
 have HS:HeldW B v w.drew:=⟨hB.drew.cell 0 rfl,hB.drew.fz 0⟩
 have HSA:HeldW B v (w.drew.alloc (.cells #[.int .i64 q0,.int .i64 q3] 211)):=⟨B2.out.cell 0 rfl,B2.out.fz 0⟩
 have HS4:HeldW B v w4:=⟨B4.out.cell 0 rfl,B4.out.fz 0⟩
 have f4:=B4.out.fz 0;have c4:=B4.out.cell 0 (v:=v) rfl;have HR4:Hid _:=r4;obtain⟨va4,vc4,hv4⟩:=own_slW ho4
 subst hv4;rw[hv]at HS HSA HS4 HR4 c4;clear hown hB ho4 hg4 hn4 r4 hne O2 B2;obtain⟨r,hr⟩:∃ r,v.ownBlock=r:=⟨_,rfl⟩
 rw[hr]at N5 T5;rw[hr];clear hr HV;simp only[wayV];have hta:=assert_way q0 q3;subst hv;go_enter Tryz.func227,Tryz.ntmps227;go_wp2;refine jjaf (HeldW B (.slice a hs.length cap)) 9 (by kernel_rfl) ?_
 refine jjaa (v:=?v0_1) aZ0 ?y0_1 HS ?r0_1
 case y0_1=>intro wx hx;obtain⟨h1,h2⟩:=hx;go_simp;try (with_reducible rfl)
 simp only[Act.put,sA,sB,sC];refine jjaa (v:=?v1_2) aZ1 ?y1_2 HS ?r1_2
 case y1_2=>intro wx hx;obtain⟨h1,h2⟩:=hx;go_simp;try (with_reducible rfl)
 simp only[Act.put,sA,sB,sC];refine jjaa (v:=?v2_3) aZ2 ?y2_3 HS ?r2_3
 case y2_3=>intro wx hx;obtain⟨h1,h2⟩:=hx;go_simp;try (with_reducible rfl)
 simp only[Act.put,sA,sB,sC];refine jjaa (v:=?v3_4) aZ3 ?y3_4 HS ?r3_4
 case y3_4=>intro wx hx;obtain⟨h1,h2⟩:=hx;go_simp;try (with_reducible rfl)
 simp only[Act.put,sA,sB,sC];refine jjaa (v:=?v4_5) aZ4 ?y4_5 HS ?r4_5
 case y4_5=>intro wx hx;obtain⟨h1,h2⟩:=hx;go_simp;try (with_reducible rfl)
 simp only[Act.put,sA,sB,sC];refine jjaa (v:=?v5_6) aZ5 ?y5_6 HS ?r5_6
 case y5_6=>intro wx hx;obtain⟨h1,h2⟩:=hx;go_simp;try (with_reducible rfl)
 simp only[Act.put,sA,sB,sC];refine jjab aZ6 (fun K hK=>?_)
 go_simp;refine hK _ _ (.inr HSA) ?_
 try simp only[Act.put,sA,sB,sC]
 refine jjab aZ7 (fun K hK=>?_)
 refine jjaw (.tmp 7) (.tmp 10) 209 rfl rfl rfl HR4.out ?_
 refine hK _ _ (.inr HS4) ?_
 try simp only[Act.put,sA,sB,sC]
 refine jjaa (v:=?v8_7) aZ8 ?y8_7 HS4 ?r8_7
 case y8_7=>intro wx hx;obtain⟨h1,h2⟩:=hx;go_simp;try (with_reducible rfl)
 simp only[Act.put,sA,sB,sC];refine jjab aZ9 (fun K hK=>?_)
 go_simp;refine hK _ _ (.inl rfl) (jjad (by kernel_rfl) (NoPanic.normal ?_))
 try simp only[Act.put,sA,sB,sC]
 clear HS HSA HS4 f4 c4;go_end0;exact⟨rfl,_,B5.out,O5.out,N5.out,T5.out⟩
theorem wkLess {B base g n cap:Nat}{hs:List Ar}{w:World}(hown:w.ownsRow base 211 2 (.slice (some ⟨g,0,none⟩) n cap) n (hs.flatMap encD))(hl:hs.length=n)(hn:n≤10000000){i j:Nat}(hi:i<n)(hj:j<n):
  Calls Tryz.prog 224 #[.slice (some ⟨g,0,none⟩) n cap,.int .i64 (i:Int),.int .i64 (j:Int)] w fun e w'=>e= .returned (.bool (decide ((el hs i).2.2.2<(el hs j).2.2.2)))∧∃ q,w'=w.drewN q:=
 wLess_any g n cap w _ _ i j hi hj hn (jjd9 hown (by omega)).2 (jjd9 hown (by omega)).2
theorem wkSwap {B base g n cap:Nat}{hs:List Ar}{w:World}(hown:w.ownsRow base 211 2 (.slice (some ⟨g,0,none⟩) n cap) n (hs.flatMap encD))(hB:Blk w B #[.slice (some ⟨g,0,none⟩) n cap] 209)(hl:hs.length=n)(hn:n≤10000000){i j:Nat}(hi:i<n)(hj:j<n):
  Calls Tryz.prog 225 #[.slice (some ⟨g,0,none⟩) n cap,.int .i64 (i:Int),.int .i64 (j:Int)] w fun e w'=>e= .returned (.tuple #[])∧w'.ownsRow base 211 2 (.slice (some ⟨g,0,none⟩) n cap) n ((swpW hs i j).flatMap encD)∧Blk w' B #[.slice (some ⟨g,0,none⟩) n cap] 209∧w.grownBy w' (some g):=by
 refine(wSwap_any g n cap w _ _ i j hi hj hn (jjd9 hown (by omega)) (jjd9 hown (by omega)) (own_thereW hown (by omega)) (own_thereW hown (by omega))).mono ?_
 rintro e w' ⟨rfl,rfl⟩
 have hne:some B≠some g:=jjak hown hB (by decide);have h0:w.drew.ownsRow base 211 2 (.slice (some ⟨g,0,none⟩) n cap) n (hs.flatMap encD):=hown;have h1:=own_setW h0 (j:=i) (by omega) (el hs j);have h2:=own_setW h1 (j:=j) (by rw[List.length_set];omega) (el hs i);have g0:w.grownBy w.drew (some g):=gNew ((Below.refl w.heap.size w).drew)
 have g1:=gTrans g0 (gTrans (gSetW w.drew g (i*2) (el hs j)) (gSetW _ g (j*2) (el hs i)));exact⟨rfl,h2,hB.grown g1 hne,g1⟩
theorem wUp_any (B base g n cap:Nat)(hs:List Ar)(j:Nat)(w:World)(hB:Blk w B #[.slice (some ⟨g,0,none⟩) n cap] 209)(hown:w.ownsRow base 211 2 (.slice (some ⟨g,0,none⟩) n cap) n (hs.flatMap encD))(hl:hs.length=n)(hn:n≤10000000)(hU:UpW hs j)(hj:j<n):
  Calls Tryz.prog 188 #[.iface 213 (.pointer (some ⟨B,0,none⟩)),.int .i64 (j:Int)] w fun e w'=>e= .returned (.tuple #[])∧∃ hs',HeapW hs' n∧hs'.Perm hs∧w'.ownsRow base 211 2 (.slice (some ⟨g,0,none⟩) n cap) n (hs'.flatMap encD)∧Blk w' B #[.slice (some ⟨g,0,none⟩) n cap] 209∧w.grownBy w' (some g):=by
 have HB0:Hid (Blk w B #[.slice (some ⟨g,0,none⟩) n cap] 209):=hB;have HO0:Hid (w.ownsRow base 211 2 (.slice (some ⟨g,0,none⟩) n cap) n (hs.flatMap encD)):=hown;have HU0:Hid (UpW hs j∧hs.length=n∧hs.Perm hs):=⟨hU,hl,List.Perm.refl _⟩
 clear hB hown hl hU;have hnot:∀ (x:Bool) (w:World),(Op.unary .not (.bool x)).run Tryz.prog w= .ok (.bool (!x)) w:=fun _ _=>rfl
 go_enter Tryz.func188,Tryz.ntmps188;go_wp2;go_loopw [1] (fun s1 wr=>∃ (j:Nat) (hs':List Ar),s1= .int .i64 (j:Int)∧j<n∧Hid (UpW hs' j∧hs'.length=n∧hs'.Perm hs)∧Hid (wr.ownsRow base 211 2 (.slice (some ⟨g,0,none⟩) n cap) n (hs'.flatMap encD))∧Hid (Blk wr B #[.slice (some ⟨g,0,none⟩) n cap] 209)∧Hid (w.grownBy wr (some g))) (fun s1 _=>(intOf s1).toNat)
 case atStart=>exact ⟨j,hs,rfl,hj,HU0,HO0,HB0,gNew (Below.refl _ _)⟩
 case round=>
  obtain⟨j,hs',rfl,hj,hU,hO,hB,hg⟩:=hrel
  clear HB0 HO0 HU0;have HLN:Hid (hs'.length=n):=hU.out.2.1;by_cases hj0:j=0
  ·subst hj0
   have HH:Hid (HeapW hs' n):=by have h9:=hU.out.1.top;rw[HLN.out]at h9;exact h9
   go_wp2;go_end0;exact⟨rfl,hs',HH.out,hU.out.2.2,hO.out,hB.out,hg.out⟩
  ·obtain ⟨i,hi⟩:∃ i,(j-1) / 2=i:=⟨_,rfl⟩
   have hij:i<j:=by omega
   have mL:=methW_less (hB.out.cell 0 (v:= .slice (some ⟨g,0,none⟩) n cap) rfl);have mS : ∀ q, Sem.run Tryz.prog (method 372 213 (.pointer (some ⟨B, 0, none⟩)) "Swap") (wr.drewN q) = .ok (225, .slice (some ⟨g, 0, none⟩) n cap) (wr.drewN q) := fun q => methW_swap ((hB.out.drewN q).cell 0 (v := .slice (some ⟨g, 0, none⟩) n cap) rfl)
   have HL:Hid (Calls Tryz.prog 224 #[.slice (some ⟨g,0,none⟩) n cap,.int .i64 (j:Int),.int .i64 (i:Int)] wr fun e w'=>e= .returned (.bool (decide ((el hs' j).2.2.2<(el hs' i).2.2.2)))∧∃ q,w'=wr.drewN q):=wkLess (B:=B) hO.out HLN.out hn (i:=j) (j:=i) hj (by omega)
   have HSW:Hid (∀ q,Calls Tryz.prog 225 #[.slice (some ⟨g,0,none⟩) n cap,.int .i64 (i:Int),.int .i64 (j:Int)] (wr.drewN q) fun e w'=>e= .returned (.tuple #[])∧w'.ownsRow base 211 2 (.slice (some ⟨g,0,none⟩) n cap) n ((swpW hs' i j).flatMap encD)∧Blk w' B #[.slice (some ⟨g,0,none⟩) n cap] 209∧(wr.drewN q).grownBy w' (some g)):=fun q=>wkSwap (B:=B) (w:=wr.drewN q) ⟨hO.out.1,hO.out.2⟩ (hB.out.drewN q) HLN.out hn (i:=i) (j:=j) (by omega) hj
   have hd:IntKind.i64.wrap (((j:Int)-1).tdiv 2)=(i:Int):=by
    rw[show (j:Int)-1=((j-1:Nat):Int) by omega,show (2:Int)=((2:Nat):Int) from rfl,← Int.ofNat_tdiv,hi];exact wrapI (by omega) (by omega)
   have hne:((i:Int)==(j:Int))=false:=by simp;omega
   by_cases hlt:(el hs' j).2.2.2<(el hs' i).2.2.2
   ·rw [decide_eq_true hlt]at HL
    have HU2:Hid (UpW (swpW hs' i j) i∧(swpW hs' i j).length=n∧(swpW hs' i j).Perm hs):=by
     have h9:=hU.out.1.swap (by omega) (by rw[HLN.out];exact hj) (by rw[hi];exact hlt);rw[hi]at h9;exact⟨h9,by rw[jjay];exact HLN.out,(jjby (by rw[HLN.out];omega) (by rw[HLN.out];exact hj)).trans hU.out.2.2⟩
    clear hlt hi;go_wp2_with (first
     | (go_at_call 224;refine HL.out.mono ?_;rintro e w' ⟨rfl,q,rfl⟩)
     | (go_at_call 225;refine(HSW.out _).mono ?_;rintro e w' ⟨rfl,ho2,hb2,hg2⟩;have HO2:Hid (w'.ownsRow base 211 2 (.slice (some ⟨g,0,none⟩) n cap) n ((swpW hs' i j).flatMap encD)):=ho2;have HB2:Hid (Blk w' B #[.slice (some ⟨g,0,none⟩) n cap] 209):=hb2;have HG2:Hid (w.grownBy w' (some g)):=gTrans (gTrans hg.out (gNew (belowDN wr q))) hg2;clear ho2 hb2 hg2))
    go_roundw
    case rel=>exact ⟨i,swpW hs' i j,rfl,by omega,HU2,HO2,HB2,HG2⟩
    case measure=>simp [intOf];omega
   ·rw [decide_eq_false hlt]at HL
    have HH:Hid (HeapW hs' n):=by have h9:=hU.out.1.stop (by rw[hi];exact hlt);rw[HLN.out]at h9;exact h9
    clear hlt hi;go_wp2_with (first
     | (go_at_call 224;refine HL.out.mono ?_;rintro e w' ⟨rfl,q,rfl⟩))
    go_end0;exact⟨rfl,hs',HH.out,hU.out.2.2,⟨hO.out.1,hO.out.2⟩,hB.out.drewN q,gTrans hg.out (gNew (belowDN wr q))⟩
end Go.Proofs.YtppkiejhhmahcaaGreatDoor.Dw
