/- Facts, joined. -/
import Derived.Test.YtppkiejhhmahcaaGreatDoorSae
set_option linter.unusedSimpArgs false
set_option linter.unusedVariables false
set_option maxHeartbeats 6400000
set_option maxRecDepth 100000
namespace Go.Proofs.YtppkiejhhmahcaaGreatDoor.Wt
open ChangeShapes WideShapes ChangeAt RowKit Pl
theorem flat_takeA (ws:List Ar):∀ k,(ws.flatMap encA).take (k*4)=(ws.take k).flatMap encA:=by
  induction ws with
  | nil=>intro k;simp
  | cons x ws ih=>
    intro k;cases k with
    | zero=>simp
    | succ k=>
      rw[List.flatMap_cons,List.take_succ_cons,List.flatMap_cons,← ih k,List.take_append,jjah,List.take_of_length_le (by rw[jjah];omega),show (k+1)*4-4=k*4 by omega]
theorem own_cutW {w:World}{base:Nat}{e:TypeId}{a:Option Addr}{n cap k:Nat}{ws:List Ar}(h:w.ownsRow base e 4 (.slice a n cap) n (ws.flatMap encA))(hk:k<n):
  ∃ g,a=some ⟨g,0,none⟩∧n≤cap∧w.ownsRow base e 4 (.slice (some ⟨g,0,none⟩) k cap) k ((ws.take k).flatMap encA):=by
 have hlen:=h.1;rw[jjai jjah]at hlen;rcases h.2 with⟨hv,hn0⟩ | ⟨g,cap',cur,hv,hbg,hg,hnc,hcm,hcs,htake⟩
 ·omega
 ·simp only[Value.slice.injEq,true_and]at hv
  obtain⟨rfl,rfl⟩:=hv
  refine⟨g,rfl,hnc,?_,.inr ⟨g,cap,cur,rfl,hbg,hg,by omega,hcm,hcs,?_⟩⟩
  ·rw [jjai jjah,List.length_take];omega
  ·have h1:cur.toList.take (k*4)=(cur.toList.take (n*4)).take (k*4):=by rw[List.take_take];congr 1;omega
   rw[h1,htake,flat_takeA]
theorem assert_way (x0 x1 x2 x3:Int)(w:World):(Instr.typeAssert (.iface 232 (.agg #[.int .i64 x0,.int .i64 x1,.int .i64 x2,.int .i64 x3])) 20 232 false).run Tryz.prog w= .ok (.agg #[.int .i64 x0,.int .i64 x1,.int .i64 x2,.int .i64 x3]) w:=by kernel_rfl
def wayV (x:Ar):Value:= .iface 232 (.agg #[.int .i64 x.1,.int .i64 x.2.1,.int .i64 x.2.2.1,.int .i64 x.2.2.2])
def HeldW (B:Nat)(v:Value)(w:World):Prop:=w.cell? ⟨B,0,none⟩=some v∧w.frozen? ⟨B,0,none⟩=false
theorem wPop_any (B base:Nat)(v:Value)(hs:List Ar)(n:Nat)(w:World)(hB:Blk w B #[v] 229)(hown:w.ownsRow base 232 4 v hs.length (hs.flatMap encA))(hl:hs.length=n+1)(hn:n≤10000000):
  Calls Tryz.prog 230 #[.pointer (some ⟨B,0,none⟩)] w fun e w'=>e= .returned (wayV (el hs n))∧∃ v',Blk w' B #[v'] 229∧w'.ownsRow base 232 4 v' n ((hs.take n).flatMap encA)∧v'.ownBlock=v.ownBlock∧Turn2 w w' B v.ownBlock:=by
 obtain⟨a,cap,hv⟩:=own_slW hown
 subst hv;rw[hl]at hown hB;obtain⟨g,hga,hnc,hcut⟩:=own_cutW (k:=n) hown (by omega)
 subst hga;obtain⟨c0,c1,c2,c3⟩:=jjde hown (j:=n) (by omega)
 have cB:=hB.cell 0 (v:= .slice (some ⟨g,0,none⟩) (n+1) cap) rfl;have fB:=hB.fz 0;have sB:=hB.lt;have hne:some B≠Value.ownBlock (.slice (some ⟨g,0,none⟩) n cap):=jjak hcut hB (by decide);have k1:(0:Int)≤(n:Int):=by omega
 have k2:(n:Int)<(n:Int)+1:=by omega
 have k3:(n:Int)≤(cap:Int):=by omega
 have k5:IntKind.i64.wrap (n:Int)=(n:Int):=wrapI (by omega) (by omega);obtain⟨y,hy⟩:∃ y:Ar,el hs n=y:=⟨_,rfl⟩
 rw[hy]at c0 c1 c2 c3;rw[hy];clear hy;obtain⟨x0,x1,x2,x3⟩:=y
 simp only[wayV]at c0 c1 c2 c3 ⊢;have HO:Hid (((w.setCell ⟨B,0,none⟩ (.slice (some ⟨g,0,none⟩) n cap)).alloc (.cells #[.int .i64 x0,.int .i64 x1,.int .i64 x2,.int .i64 x3] 232)).ownsRow base 232 4 (.slice (some ⟨g,0,none⟩) n cap) n ((hs.take n).flatMap encA)):=(hcut.kept (gSet w B 0 _) (.inr (Ne.symm hne))).alloc _
 have HB:Hid (Blk ((w.setCell ⟨B,0,none⟩ (.slice (some ⟨g,0,none⟩) n cap)).alloc (.cells #[.int .i64 x0,.int .i64 x1,.int .i64 x2,.int .i64 x3] 232)) B #[.slice (some ⟨g,0,none⟩) n cap] 229):=by have h9:=(hB.set 0 (.slice (some ⟨g,0,none⟩) n cap)).alloc (.cells #[.int .i64 x0,.int .i64 x1,.int .i64 x2,.int .i64 x3] 232);exact h9
 have HT:Hid (Turn2 w ((w.setCell ⟨B,0,none⟩ (.slice (some ⟨g,0,none⟩) n cap)).alloc (.cells #[.int .i64 x0,.int .i64 x1,.int .i64 x2,.int .i64 x3] 232)) B (Value.ownBlock (.slice (some ⟨g,0,none⟩) (n+1) cap))):=by
  have h1:Turn2 w (w.setCell ⟨B,0,none⟩ (.slice (some ⟨g,0,none⟩) n cap)) B (Value.ownBlock (.slice (some ⟨g,0,none⟩) (n+1) cap)):=Turn2.set (Turn2.grown (gNew (Below.refl _ _)) B) 0 _;exact h1.trans (Turn2.grown (World.grownBy_alloc _ _ _) B) (.inl rfl)
 rw[hl];clear hown hB hcut hne;go_enter Tryz.func230,Tryz.ntmps230;go_wp2;go_ret;exact⟨rfl,_,HB.out,HO.out,rfl,HT.out⟩
theorem wPush_any (B base:Nat)(v:Value)(hs:List Ar)(q:Ar)(w:World)(hB:Blk w B #[v] 229)(hown:w.ownsRow base 232 4 v hs.length (hs.flatMap encA))(hbase:base≤w.heap.size)(hn:hs.length≤9000000):
  Calls Tryz.prog 231 #[.pointer (some ⟨B,0,none⟩),wayV q] w fun e w'=>e= .returned (.tuple #[])∧∃ v',Blk w' B #[v'] 229∧w'.ownsRow base 232 4 v' (hs++[q]).length ((hs++[q]).flatMap encA)∧Near w v.ownBlock v'∧Turn2 w w' B v.ownBlock:=by
 obtain⟨i1,hi1,hy0,hy1,hy2⟩:=info_parts infoWay
 obtain⟨q0,q1,q2,q3⟩:=q
 obtain⟨a,cap,hv⟩:=own_slW hown
 have HV:Hid (v= .slice a hs.length cap):=hv;have O2:Hid ((w.drew.alloc (.cells #[.int .i64 q0,.int .i64 q1,.int .i64 q2,.int .i64 q3] 232)).ownsRow base 232 4 v hs.length (hs.flatMap encA)):=World.ownsRow.alloc (w:=w.drew) hown _;have B2:Hid (Blk (w.drew.alloc (.cells #[.int .i64 q0,.int .i64 q1,.int .i64 q2,.int .i64 q3] 232)) B #[v] 229):=hB.drew.alloc _
 obtain⟨v4,w4,r4,ho4,hg4,hn4⟩:=jjao (P:=Tryz.prog) (w:=w.drew.alloc (.cells #[.int .i64 q0,.int .i64 q1,.int .i64 q2,.int .i64 q3] 232)) jjah (by decide) jjch 229 229 base 232 i1 _ 32 Tryz.underlying229 hi1 hy0 hy1 hy2 rfl _ hs.length (hs.flatMap encA) O2.out _ [(q0,q1,q2,q3)] (oneRow (enc:=encA) w.drew (q0,q1,q2,q3) rfl 232) (by simp;unfold maxLen;omega) (by simp;omega) (by rw[World.size_alloc];exact Nat.le_succ_of_le hbase)
 have B4:Hid (Blk w4 B #[v] 229):=B2.out.grown hg4 (jjak O2.out B2.out (by decide));have hne:some B≠v4.ownBlock:=jjak ho4 B4.out (by decide);have O5:Hid ((w4.setCell ⟨B,0,none⟩ v4).ownsRow base 232 4 v4 (hs++[(q0,q1,q2,q3)]).length ((hs++[(q0,q1,q2,q3)]).flatMap encA)):=by
  show World.ownsRow _ _ _ _ _ _ _;rw[List.length_append,List.flatMap_append];exact ho4.kept (gSet w4 B 0 _) (.inr (Ne.symm hne))
 have B5:Hid (Blk (w4.setCell ⟨B,0,none⟩ v4) B #[v4] 229):=by have h9:=B4.out.set 0 v4;exact h9
 have N5:Hid (Near w v.ownBlock v4):=by
  rcases hn4 with e | ⟨b,e,hb⟩
  ·exact .inl e
  ·exact .inr ⟨b,e,by rw[World.size_alloc]at hb;exact Nat.le_of_succ_le hb⟩
 have T5:Hid (Turn2 w (w4.setCell ⟨B,0,none⟩ v4) B v.ownBlock):=by
  have h1:w.grownBy (w.drew.alloc (.cells #[.int .i64 q0,.int .i64 q1,.int .i64 q2,.int .i64 q3] 232)) v.ownBlock:=gNew ((Below.refl w.heap.size w).drew.alloc (Nat.le_refl _) _);exact Turn2.set (Turn2.grown (gTrans h1 hg4) B) 0 _
 have HS:HeldW B v w.drew:=⟨hB.drew.cell 0 rfl,hB.drew.fz 0⟩
 have HSA:HeldW B v (w.drew.alloc (.cells #[.int .i64 q0,.int .i64 q1,.int .i64 q2,.int .i64 q3] 232)):=⟨B2.out.cell 0 rfl,B2.out.fz 0⟩
 have HS4:HeldW B v w4:=⟨B4.out.cell 0 rfl,B4.out.fz 0⟩
 have f4:=B4.out.fz 0;have c4:=B4.out.cell 0 (v:=v) rfl;have HR4:Hid _:=r4;obtain⟨va4,vc4,hv4⟩:=own_slW ho4
 subst hv4;rw[hv]at HS HSA HS4 HR4 c4;clear hown hB ho4 hg4 hn4 r4 hne O2 B2;obtain⟨r,hr⟩:∃ r,v.ownBlock=r:=⟨_,rfl⟩
 rw[hr]at N5 T5;rw[hr];clear hr HV;simp only[wayV];have hta:=assert_way q0 q1 q2 q3;subst hv;go_enter Tryz.func231,Tryz.ntmps231;go_wp2;refine jjaf (HeldW B (.slice a hs.length cap)) 9 (by kernel_rfl) ?_
 refine jjaa (v:=?v0_1) aZ0 ?y0_1 HS ?r0_1
 case y0_1=>intro wx hx;obtain⟨h1,h2⟩:=hx;go_simp;try (with_reducible rfl)
 simp only[Act.put,sA,sB,sC];refine jjaa (v:=?v1_2) aZ1 ?y1_2 HS ?r1_2
 case y1_2=>intro wx hx;obtain⟨h1,h2⟩:=hx;go_simp;try (with_reducible rfl)
 simp only[Act.put,sA,sB,sC];refine jjaa (v:=?v2_3) aZ2 ?y2_3 HS ?r2_3
 case y2_3=>intro wx hx;obtain⟨h1,h2⟩:=hx;go_simp;try (with_reducible rfl)
 simp only[Act.put,sA,sB,sC];refine jjaa (v:=?v3_4) aZ3 ?y3_4 HS ?r3_4
 case y3_4=>intro wx hx;obtain⟨h1,h2⟩:=hx;go_simp;try (with_reducible rfl)
 simp only[Act.put,sA,sB,sC];refine jjaa (v:=?v4_5) aZ4 ?y4_5 HS ?r4_5
 case y4_5=>intro wx hx;obtain⟨h1,h2⟩:=hx;go_simp;try (with_reducible rfl)
 simp only[Act.put,sA,sB,sC];refine jjaa (v:=?v5_6) aZ5 ?y5_6 HS ?r5_6
 case y5_6=>intro wx hx;obtain⟨h1,h2⟩:=hx;go_simp;try (with_reducible rfl)
 simp only[Act.put,sA,sB,sC];refine jjab aZ6 (fun K hK=>?_)
 go_simp;refine hK _ _ (.inr HSA) ?_
 try simp only[Act.put,sA,sB,sC]
 refine jjab aZ7 (fun K hK=>?_)
 refine jjaw (.tmp 7) (.tmp 10) 229 rfl rfl rfl HR4.out ?_
 refine hK _ _ (.inr HS4) ?_
 try simp only[Act.put,sA,sB,sC]
 refine jjaa (v:=?v8_7) aZ8 ?y8_7 HS4 ?r8_7
 case y8_7=>intro wx hx;obtain⟨h1,h2⟩:=hx;go_simp;try (with_reducible rfl)
 simp only[Act.put,sA,sB,sC];refine jjab aZ9 (fun K hK=>?_)
 go_simp;refine hK _ _ (.inl rfl) (jjad (by kernel_rfl) (NoPanic.normal ?_))
 try simp only[Act.put,sA,sB,sC]
 clear HS HSA HS4 f4 c4;go_end0;exact⟨rfl,_,B5.out,O5.out,N5.out,T5.out⟩
theorem wkLess {B base g n cap:Nat}{hs:List Ar}{w:World}(hown:w.ownsRow base 232 4 (.slice (some ⟨g,0,none⟩) n cap) n (hs.flatMap encA))(hl:hs.length=n)(hn:n≤10000000){i j:Nat}(hi:i<n)(hj:j<n):
  Calls Tryz.prog 228 #[.slice (some ⟨g,0,none⟩) n cap,.int .i64 (i:Int),.int .i64 (j:Int)] w fun e w'=>e= .returned (.bool (decide ((el hs i).2.2.2<(el hs j).2.2.2)))∧∃ q,w'=w.drewN q:=
 wLess_any g n cap w _ _ i j hi hj hn (jjde hown (by omega)).2.2.2 (jjde hown (by omega)).2.2.2
theorem wkSwap {B base g n cap:Nat}{hs:List Ar}{w:World}(hown:w.ownsRow base 232 4 (.slice (some ⟨g,0,none⟩) n cap) n (hs.flatMap encA))(hB:Blk w B #[.slice (some ⟨g,0,none⟩) n cap] 229)(hl:hs.length=n)(hn:n≤10000000){i j:Nat}(hi:i<n)(hj:j<n):
  Calls Tryz.prog 229 #[.slice (some ⟨g,0,none⟩) n cap,.int .i64 (i:Int),.int .i64 (j:Int)] w fun e w'=>e= .returned (.tuple #[])∧w'.ownsRow base 232 4 (.slice (some ⟨g,0,none⟩) n cap) n ((swpW hs i j).flatMap encA)∧Blk w' B #[.slice (some ⟨g,0,none⟩) n cap] 229∧w.grownBy w' (some g):=by
 refine(wSwap_any g n cap w _ _ i j hi hj hn (jjde hown (by omega)) (jjde hown (by omega)) (own_thereW hown (by omega)) (own_thereW hown (by omega))).mono ?_
 rintro e w' ⟨rfl,rfl⟩
 have hne:some B≠some g:=jjak hown hB (by decide);have h0:w.drew.ownsRow base 232 4 (.slice (some ⟨g,0,none⟩) n cap) n (hs.flatMap encA):=hown;have h1:=own_setW h0 (j:=i) (by omega) (el hs j);have h2:=own_setW h1 (j:=j) (by rw[List.length_set];omega) (el hs i);have g0:w.grownBy w.drew (some g):=gNew ((Below.refl w.heap.size w).drew)
 have g1:=gTrans g0 (gTrans (gSetW w.drew g (i*4) (el hs j)) (gSetW _ g (j*4) (el hs i)));exact⟨rfl,h2,hB.grown g1 hne,g1⟩
theorem wUp_any (B base g n cap:Nat)(hs:List Ar)(j:Nat)(w:World)(hB:Blk w B #[.slice (some ⟨g,0,none⟩) n cap] 229)(hown:w.ownsRow base 232 4 (.slice (some ⟨g,0,none⟩) n cap) n (hs.flatMap encA))(hl:hs.length=n)(hn:n≤10000000)(hU:UpW hs j)(hj:j<n):
  Calls Tryz.prog 188 #[.iface 230 (.pointer (some ⟨B,0,none⟩)),.int .i64 (j:Int)] w fun e w'=>e= .returned (.tuple #[])∧∃ hs',HeapW hs' n∧hs'.Perm hs∧w'.ownsRow base 232 4 (.slice (some ⟨g,0,none⟩) n cap) n (hs'.flatMap encA)∧Blk w' B #[.slice (some ⟨g,0,none⟩) n cap] 229∧w.grownBy w' (some g):=by
 have HB0:Hid (Blk w B #[.slice (some ⟨g,0,none⟩) n cap] 229):=hB;have HO0:Hid (w.ownsRow base 232 4 (.slice (some ⟨g,0,none⟩) n cap) n (hs.flatMap encA)):=hown;have HU0:Hid (UpW hs j∧hs.length=n∧hs.Perm hs):=⟨hU,hl,List.Perm.refl _⟩
 clear hB hown hl hU;have hnot:∀ (x:Bool) (w:World),(Op.unary .not (.bool x)).run Tryz.prog w= .ok (.bool (!x)) w:=fun _ _=>rfl
 go_enter Tryz.func188,Tryz.ntmps188;go_wp2;go_loopw [1] (fun s1 wr=>∃ (j:Nat) (hs':List Ar),s1= .int .i64 (j:Int)∧j<n∧Hid (UpW hs' j∧hs'.length=n∧hs'.Perm hs)∧Hid (wr.ownsRow base 232 4 (.slice (some ⟨g,0,none⟩) n cap) n (hs'.flatMap encA))∧Hid (Blk wr B #[.slice (some ⟨g,0,none⟩) n cap] 229)∧Hid (w.grownBy wr (some g))) (fun s1 _=>(intOf s1).toNat)
 case atStart=>exact ⟨j,hs,rfl,hj,HU0,HO0,HB0,gNew (Below.refl _ _)⟩
 case round=>
  obtain⟨j,hs',rfl,hj,hU,hO,hB,hg⟩:=hrel
  clear HB0 HO0 HU0;have HLN:Hid (hs'.length=n):=hU.out.2.1;by_cases hj0:j=0
  ·subst hj0
   have HH:Hid (HeapW hs' n):=by have h9:=hU.out.1.top;rw[HLN.out]at h9;exact h9
   go_wp2;go_end0;exact⟨rfl,hs',HH.out,hU.out.2.2,hO.out,hB.out,hg.out⟩
  ·obtain ⟨i,hi⟩:∃ i,(j-1) / 2=i:=⟨_,rfl⟩
   have hij:i<j:=by omega
   have mL:=methW_less (hB.out.cell 0 (v:= .slice (some ⟨g,0,none⟩) n cap) rfl);have mS : ∀ q, Sem.run Tryz.prog (method 372 230 (.pointer (some ⟨B, 0, none⟩)) "Swap") (wr.drewN q) = .ok (229, .slice (some ⟨g, 0, none⟩) n cap) (wr.drewN q) := fun q => methW_swap ((hB.out.drewN q).cell 0 (v := .slice (some ⟨g, 0, none⟩) n cap) rfl)
   have HL:Hid (Calls Tryz.prog 228 #[.slice (some ⟨g,0,none⟩) n cap,.int .i64 (j:Int),.int .i64 (i:Int)] wr fun e w'=>e= .returned (.bool (decide ((el hs' j).2.2.2<(el hs' i).2.2.2)))∧∃ q,w'=wr.drewN q):=wkLess (B:=B) hO.out HLN.out hn (i:=j) (j:=i) hj (by omega)
   have HSW:Hid (∀ q,Calls Tryz.prog 229 #[.slice (some ⟨g,0,none⟩) n cap,.int .i64 (i:Int),.int .i64 (j:Int)] (wr.drewN q) fun e w'=>e= .returned (.tuple #[])∧w'.ownsRow base 232 4 (.slice (some ⟨g,0,none⟩) n cap) n ((swpW hs' i j).flatMap encA)∧Blk w' B #[.slice (some ⟨g,0,none⟩) n cap] 229∧(wr.drewN q).grownBy w' (some g)):=fun q=>wkSwap (B:=B) (w:=wr.drewN q) ⟨hO.out.1,hO.out.2⟩ (hB.out.drewN q) HLN.out hn (i:=i) (j:=j) (by omega) hj
   have hd:IntKind.i64.wrap (((j:Int)-1).tdiv 2)=(i:Int):=by
    rw[show (j:Int)-1=((j-1:Nat):Int) by omega,show (2:Int)=((2:Nat):Int) from rfl,← Int.ofNat_tdiv,hi];exact wrapI (by omega) (by omega)
   have hne:((i:Int)==(j:Int))=false:=by simp;omega
   by_cases hlt:(el hs' j).2.2.2<(el hs' i).2.2.2
   ·rw [decide_eq_true hlt]at HL
    have HU2:Hid (UpW (swpW hs' i j) i∧(swpW hs' i j).length=n∧(swpW hs' i j).Perm hs):=by
     have h9:=hU.out.1.swap (by omega) (by rw[HLN.out];exact hj) (by rw[hi];exact hlt);rw[hi]at h9;exact⟨h9,by rw[jjay];exact HLN.out,(jjby (by rw[HLN.out];omega) (by rw[HLN.out];exact hj)).trans hU.out.2.2⟩
    clear hlt hi;go_wp2_with (first
     | (go_at_call 228;refine HL.out.mono ?_;rintro e w' ⟨rfl,q,rfl⟩)
     | (go_at_call 229;refine(HSW.out _).mono ?_;rintro e w' ⟨rfl,ho2,hb2,hg2⟩;have HO2:Hid (w'.ownsRow base 232 4 (.slice (some ⟨g,0,none⟩) n cap) n ((swpW hs' i j).flatMap encA)):=ho2;have HB2:Hid (Blk w' B #[.slice (some ⟨g,0,none⟩) n cap] 229):=hb2;have HG2:Hid (w.grownBy w' (some g)):=gTrans (gTrans hg.out (gNew (belowDN wr q))) hg2;clear ho2 hb2 hg2))
    go_roundw
    case rel=>exact ⟨i,swpW hs' i j,rfl,by omega,HU2,HO2,HB2,HG2⟩
    case measure=>simp [intOf];omega
   ·rw [decide_eq_false hlt]at HL
    have HH:Hid (HeapW hs' n):=by have h9:=hU.out.1.stop (by rw[hi];exact hlt);rw[HLN.out]at h9;exact h9
    clear hlt hi;go_wp2_with (first
     | (go_at_call 228;refine HL.out.mono ?_;rintro e w' ⟨rfl,q,rfl⟩))
    go_end0;exact⟨rfl,hs',HH.out,hU.out.2.2,⟨hO.out.1,hO.out.2⟩,hB.out.drewN q,gTrans hg.out (gNew (belowDN wr q))⟩
theorem drewN_two (w:World)(a b:Nat):(w.drewN a).drewN b=w.drewN (a+b):=by
 show({w with drawn:=w.drawn+a+b}:World)={w with drawn:=w.drawn+(a+b)}
 rw[Nat.add_assoc]
theorem wkLessD {B base g n cap:Nat}{hs:List Ar}{w:World}(q:Nat)(hown:w.ownsRow base 232 4 (.slice (some ⟨g,0,none⟩) n cap) n (hs.flatMap encA))(hl:hs.length=n)(hn:n≤10000000){i j:Nat}(hi:i<n)(hj:j<n):
  Calls Tryz.prog 228 #[.slice (some ⟨g,0,none⟩) n cap,.int .i64 (i:Int),.int .i64 (j:Int)] (w.drewN q) fun e w'=>e= .returned (.bool (decide ((el hs i).2.2.2<(el hs j).2.2.2)))∧∃ q2,w'=w.drewN q2:=
 (wkLess (B:=B) (w:=w.drewN q) ⟨hown.1,hown.2⟩ hl hn hi hj).mono fun _ _ h=>⟨h.1,by obtain⟨q2,h2⟩:=h.2;exact⟨q+q2,h2.trans (drewN_two w q q2)⟩⟩
theorem wDown_any (B base g m cap n:Nat)(hs:List Ar)(w:World)(hB:Blk w B #[.slice (some ⟨g,0,none⟩) m cap] 229)(hown:w.ownsRow base 232 4 (.slice (some ⟨g,0,none⟩) m cap) m (hs.flatMap encA))(hl:hs.length=m)(hnm:n<m)(hm:m≤10000000)(hD:DownW hs 0 n):
  Calls Tryz.prog 189 #[.iface 230 (.pointer (some ⟨B,0,none⟩)),.int .i64 0,.int .i64 (n:Int)] w fun e w'=>(∃ b,e= .returned (.bool b))∧∃ hs',HeapW hs' n∧hs'.Perm hs∧hs'.drop n=hs.drop n∧w'.ownsRow base 232 4 (.slice (some ⟨g,0,none⟩) m cap) m (hs'.flatMap encA)∧Blk w' B #[.slice (some ⟨g,0,none⟩) m cap] 229∧w.grownBy w' (some g):=by
 have HB0:Hid (Blk w B #[.slice (some ⟨g,0,none⟩) m cap] 229):=hB;have HO0:Hid (w.ownsRow base 232 4 (.slice (some ⟨g,0,none⟩) m cap) m (hs.flatMap encA)):=hown;have HD0:Hid (DownW hs 0 n∧hs.length=m∧hs.Perm hs∧hs.drop n=hs.drop n):=⟨hD,hl,List.Perm.refl _,rfl⟩
 clear hB hown hl hD;have hnot:∀ (x:Bool) (w:World),(Op.unary .not (.bool x)).run Tryz.prog w= .ok (.bool (!x)) w:=fun _ _=>rfl
 go_enter Tryz.func189,Tryz.ntmps189;go_wp2;go_loopw [7] (fun s7 wr=>∃ (i:Nat) (hs':List Ar),s7= .int .i64 (i:Int)∧i<m∧Hid (DownW hs' i n∧hs'.length=m∧hs'.Perm hs∧hs'.drop n=hs.drop n)∧Hid (wr.ownsRow base 232 4 (.slice (some ⟨g,0,none⟩) m cap) m (hs'.flatMap encA))∧Hid (Blk wr B #[.slice (some ⟨g,0,none⟩) m cap] 229)∧Hid (w.grownBy wr (some g))) (fun s7 _=>m-(intOf s7).toNat)
 case atStart=>exact ⟨0,hs,rfl,by omega,⟨HD0.out.1,HD0.out.2.1,List.Perm.refl _,rfl⟩,HO0,HB0,gNew (Below.refl _ _)⟩
 case round=>
  obtain⟨i,hs',rfl,him,hD,hO,hB,hg⟩:=hrel
  clear HB0 HO0 HD0;have HLN:Hid (hs'.length=m):=hD.out.2.1;have hneg:decide (2*(i:Int)+1<0)=false:=decide_eq_false (by omega);by_cases h1:n≤2*i+1
  ·have h1z:(n:Int)≤2*(i:Int)+1:=by omega
   have HH:Hid (HeapW hs' n):=hD.out.1.leaf h1;go_wp2;go_ret;exact⟨⟨_,rfl⟩,hs',HH.out,hD.out.2.2.1,hD.out.2.2.2,hO.out,hB.out,hg.out⟩
  ·have h1z:¬ (n:Int)≤2*(i:Int)+1:=by omega
   have h1d:decide ((n:Int)≤2*(i:Int)+1)=false:=decide_eq_false h1z;have mL0:=methW_less (hB.out.cell 0 (v:= .slice (some ⟨g,0,none⟩) m cap) rfl);have mL : ∀ q, Sem.run Tryz.prog (method 372 230 (.pointer (some ⟨B, 0, none⟩)) "Less") (wr.drewN q) = .ok (228, .slice (some ⟨g, 0, none⟩) m cap) (wr.drewN q) := fun q => methW_less ((hB.out.drewN q).cell 0 (v := .slice (some ⟨g, 0, none⟩) m cap) rfl)
   have mS : ∀ q, Sem.run Tryz.prog (method 372 230 (.pointer (some ⟨B, 0, none⟩)) "Swap") (wr.drewN q) = .ok (229, .slice (some ⟨g, 0, none⟩) m cap) (wr.drewN q) := fun q => methW_swap ((hB.out.drewN q).cell 0 (v := .slice (some ⟨g, 0, none⟩) m cap) rfl)
   by_cases h2:2*i+1+1<n
   ·have h2z:2*(i:Int)+1+1<(n:Int):=by omega
    have h2d:decide (2*(i:Int)+1+1<(n:Int))=true:=decide_eq_true h2z;by_cases hr:(el hs' (2*i+1+1)).2.2.2<(el hs' (2*i+1)).2.2.2
    ·skip
     have hcm:2*i+1+1<m:=by omega
     have ec:((2*i+1+1:Nat):Int)=2*(i:Int)+1+1:=by omega
     have LC:Hid (LowW hs' i n (2*i+1+1)):=LowW.right h2 hr;have HL2:Hid (∀ q,Calls Tryz.prog 228 #[.slice (some ⟨g,0,none⟩) m cap,.int .i64 (2*(i:Int)+1+1),.int .i64 (i:Int)] (wr.drewN q) fun e w'=>e= .returned (.bool (decide ((el hs' (2*i+1+1)).2.2.2<(el hs' i).2.2.2)))∧∃ q2,w'=wr.drewN q2):=by have h9:=fun q=>wkLessD (B:=B) q hO.out HLN.out hm (i:=2*i+1+1) (j:=i) hcm him;rw[ec]at h9;exact h9
     have HL1:Hid (Calls Tryz.prog 228 #[.slice (some ⟨g,0,none⟩) m cap,.int .i64 (2*(i:Int)+1+1),.int .i64 (2*(i:Int)+1)] wr fun e w'=>e= .returned (.bool true)∧∃ q2,w'=wr.drewN q2):=by have h9:=wkLessD (B:=B) 0 hO.out HLN.out hm (i:=2*i+1+1) (j:=2*i+1) (by omega) (by omega);rw[show ((2*i+1+1:Nat):Int)=2*(i:Int)+1+1 by omega,show ((2*i+1:Nat):Int)=2*(i:Int)+1 by omega]at h9;rw[decide_eq_true hr]at h9;exact h9
     have HSW:Hid (∀ q,Calls Tryz.prog 229 #[.slice (some ⟨g,0,none⟩) m cap,.int .i64 (i:Int),.int .i64 (2*(i:Int)+1+1)] (wr.drewN q) fun e w'=>e= .returned (.tuple #[])∧w'.ownsRow base 232 4 (.slice (some ⟨g,0,none⟩) m cap) m ((swpW hs' i (2*i+1+1)).flatMap encA)∧Blk w' B #[.slice (some ⟨g,0,none⟩) m cap] 229∧(wr.drewN q).grownBy w' (some g)):=by have h9:=fun q=>wkSwap (B:=B) (w:=wr.drewN q) ⟨hO.out.1,hO.out.2⟩ (hB.out.drewN q) HLN.out hm (i:=i) (j:=2*i+1+1) him hcm;rw[ec]at h9;exact h9
     by_cases hlt:(el hs' (2*i+1+1)).2.2.2<(el hs' i).2.2.2
     ·rw [decide_eq_true hlt]at HL2
      have HD2:Hid (DownW (swpW hs' i (2*i+1+1)) (2*i+1+1) n∧(swpW hs' i (2*i+1+1)).length=m∧(swpW hs' i (2*i+1+1)).Perm hs∧(swpW hs' i (2*i+1+1)).drop n=hs.drop n):=⟨hD.out.1.swap (by rw[HLN.out];omega) LC.out hlt,by rw[jjay];exact HLN.out,(jjby (by rw[HLN.out];exact him) (by rw[HLN.out];exact hcm)).trans hD.out.2.2.1,(jjcn (by omega) (by omega)).trans hD.out.2.2.2⟩
      clear hlt LC hD hr;go_wp2_with (first
       | (go_at_call 228;(with_reducible refine HL1.out.mono ?_);rintro e w' ⟨rfl,q1,rfl⟩)
       | (go_at_call 228;(with_reducible refine(HL2.out _).mono ?_);rintro e w' ⟨rfl,q,rfl⟩)
       | (go_at_call 229;refine(HSW.out _).mono ?_;rintro e w' ⟨rfl,ho2,hb2,hg2⟩;have HO2:Hid (w'.ownsRow base 232 4 (.slice (some ⟨g,0,none⟩) m cap) m ((swpW hs' i (2*i+1+1)).flatMap encA)):=ho2;have HB2:Hid (Blk w' B #[.slice (some ⟨g,0,none⟩) m cap] 229):=hb2;have HG2:Hid (w.grownBy w' (some g)):=gTrans (gTrans hg.out (gNew (belowDN wr q))) hg2;clear ho2 hb2 hg2))
      go_roundw
      case rel=>exact ⟨2*i+1+1,swpW hs' i (2*i+1+1),by rw[ec],hcm,HD2,HO2,HB2,HG2⟩
      case measure=>simp [intOf];omega
     ·rw [decide_eq_false hlt]at HL2
      have HH:Hid (HeapW hs' n):=hD.out.1.stop LC.out hlt;clear hlt LC hr;go_wp2_with (first
       | (go_at_call 228;(with_reducible refine HL1.out.mono ?_);rintro e w' ⟨rfl,q1,rfl⟩)
       | (go_at_call 228;(with_reducible refine(HL2.out _).mono ?_);rintro e w' ⟨rfl,q,rfl⟩))
      go_ret;exact⟨⟨_,rfl⟩,hs',HH.out,hD.out.2.2.1,hD.out.2.2.2,⟨hO.out.1,hO.out.2⟩,hB.out.drewN q,gTrans hg.out (gNew (belowDN wr q))⟩
    ·skip
     have hcm:2*i+1<m:=by omega
     have ec:((2*i+1:Nat):Int)=2*(i:Int)+1:=by omega
     have LC:Hid (LowW hs' i n (2*i+1)):=LowW.left (by omega) (fun _=>hr)
     have HL2:Hid (∀ q,Calls Tryz.prog 228 #[.slice (some ⟨g,0,none⟩) m cap,.int .i64 (2*(i:Int)+1),.int .i64 (i:Int)] (wr.drewN q) fun e w'=>e= .returned (.bool (decide ((el hs' (2*i+1)).2.2.2<(el hs' i).2.2.2)))∧∃ q2,w'=wr.drewN q2):=by have h9:=fun q=>wkLessD (B:=B) q hO.out HLN.out hm (i:=2*i+1) (j:=i) hcm him;rw[ec]at h9;exact h9
     have HL1:Hid (Calls Tryz.prog 228 #[.slice (some ⟨g,0,none⟩) m cap,.int .i64 (2*(i:Int)+1+1),.int .i64 (2*(i:Int)+1)] wr fun e w'=>e= .returned (.bool false)∧∃ q2,w'=wr.drewN q2):=by have h9:=wkLessD (B:=B) 0 hO.out HLN.out hm (i:=2*i+1+1) (j:=2*i+1) (by omega) (by omega);rw[show ((2*i+1+1:Nat):Int)=2*(i:Int)+1+1 by omega,show ((2*i+1:Nat):Int)=2*(i:Int)+1 by omega]at h9;rw[decide_eq_false hr]at h9;exact h9
     have HSW:Hid (∀ q,Calls Tryz.prog 229 #[.slice (some ⟨g,0,none⟩) m cap,.int .i64 (i:Int),.int .i64 (2*(i:Int)+1)] (wr.drewN q) fun e w'=>e= .returned (.tuple #[])∧w'.ownsRow base 232 4 (.slice (some ⟨g,0,none⟩) m cap) m ((swpW hs' i (2*i+1)).flatMap encA)∧Blk w' B #[.slice (some ⟨g,0,none⟩) m cap] 229∧(wr.drewN q).grownBy w' (some g)):=by have h9:=fun q=>wkSwap (B:=B) (w:=wr.drewN q) ⟨hO.out.1,hO.out.2⟩ (hB.out.drewN q) HLN.out hm (i:=i) (j:=2*i+1) him hcm;rw[ec]at h9;exact h9
     by_cases hlt:(el hs' (2*i+1)).2.2.2<(el hs' i).2.2.2
     ·rw [decide_eq_true hlt]at HL2
      have HD2:Hid (DownW (swpW hs' i (2*i+1)) (2*i+1) n∧(swpW hs' i (2*i+1)).length=m∧(swpW hs' i (2*i+1)).Perm hs∧(swpW hs' i (2*i+1)).drop n=hs.drop n):=⟨hD.out.1.swap (by rw[HLN.out];omega) LC.out hlt,by rw[jjay];exact HLN.out,(jjby (by rw[HLN.out];exact him) (by rw[HLN.out];exact hcm)).trans hD.out.2.2.1,(jjcn (by omega) (by omega)).trans hD.out.2.2.2⟩
      clear hlt LC hD hr;go_wp2_with (first
       | (go_at_call 228;(with_reducible refine HL1.out.mono ?_);rintro e w' ⟨rfl,q1,rfl⟩)
       | (go_at_call 228;(with_reducible refine(HL2.out _).mono ?_);rintro e w' ⟨rfl,q,rfl⟩)
       | (go_at_call 229;refine(HSW.out _).mono ?_;rintro e w' ⟨rfl,ho2,hb2,hg2⟩;have HO2:Hid (w'.ownsRow base 232 4 (.slice (some ⟨g,0,none⟩) m cap) m ((swpW hs' i (2*i+1)).flatMap encA)):=ho2;have HB2:Hid (Blk w' B #[.slice (some ⟨g,0,none⟩) m cap] 229):=hb2;have HG2:Hid (w.grownBy w' (some g)):=gTrans (gTrans hg.out (gNew (belowDN wr q))) hg2;clear ho2 hb2 hg2))
      go_roundw
      case rel=>exact ⟨2*i+1,swpW hs' i (2*i+1),by rw[ec],hcm,HD2,HO2,HB2,HG2⟩
      case measure=>simp [intOf];omega
     ·rw [decide_eq_false hlt]at HL2
      have HH:Hid (HeapW hs' n):=hD.out.1.stop LC.out hlt;clear hlt LC hr;go_wp2_with (first
       | (go_at_call 228;(with_reducible refine HL1.out.mono ?_);rintro e w' ⟨rfl,q1,rfl⟩)
       | (go_at_call 228;(with_reducible refine(HL2.out _).mono ?_);rintro e w' ⟨rfl,q,rfl⟩))
      go_ret;exact⟨⟨_,rfl⟩,hs',HH.out,hD.out.2.2.1,hD.out.2.2.2,⟨hO.out.1,hO.out.2⟩,hB.out.drewN q,gTrans hg.out (gNew (belowDN wr q))⟩
   ·have h2z:¬ 2*(i:Int)+1+1<(n:Int):=by omega
    have h2d:decide (2*(i:Int)+1+1<(n:Int))=false:=decide_eq_false h2z;have hr:True:=trivial;have hcm:2*i+1<m:=by omega
    have ec:((2*i+1:Nat):Int)=2*(i:Int)+1:=by omega
    have LC:Hid (LowW hs' i n (2*i+1)):=LowW.left (by omega) (fun h=>absurd h h2)
    have HL2:Hid (∀ q,Calls Tryz.prog 228 #[.slice (some ⟨g,0,none⟩) m cap,.int .i64 (2*(i:Int)+1),.int .i64 (i:Int)] (wr.drewN q) fun e w'=>e= .returned (.bool (decide ((el hs' (2*i+1)).2.2.2<(el hs' i).2.2.2)))∧∃ q2,w'=wr.drewN q2):=by have h9:=fun q=>wkLessD (B:=B) q hO.out HLN.out hm (i:=2*i+1) (j:=i) hcm him;rw[ec]at h9;exact h9
    have HSW:Hid (∀ q,Calls Tryz.prog 229 #[.slice (some ⟨g,0,none⟩) m cap,.int .i64 (i:Int),.int .i64 (2*(i:Int)+1)] (wr.drewN q) fun e w'=>e= .returned (.tuple #[])∧w'.ownsRow base 232 4 (.slice (some ⟨g,0,none⟩) m cap) m ((swpW hs' i (2*i+1)).flatMap encA)∧Blk w' B #[.slice (some ⟨g,0,none⟩) m cap] 229∧(wr.drewN q).grownBy w' (some g)):=by have h9:=fun q=>wkSwap (B:=B) (w:=wr.drewN q) ⟨hO.out.1,hO.out.2⟩ (hB.out.drewN q) HLN.out hm (i:=i) (j:=2*i+1) him hcm;rw[ec]at h9;exact h9
    by_cases hlt:(el hs' (2*i+1)).2.2.2<(el hs' i).2.2.2
    ·rw [decide_eq_true hlt]at HL2
     have HL20:Hid (Calls Tryz.prog 228 #[.slice (some ⟨g,0,none⟩) m cap,.int .i64 (2*(i:Int)+1),.int .i64 (i:Int)] wr fun e w'=>e= .returned (.bool true)∧∃ q2,w'=wr.drewN q2):=HL2.out 0
     have HD2:Hid (DownW (swpW hs' i (2*i+1)) (2*i+1) n∧(swpW hs' i (2*i+1)).length=m∧(swpW hs' i (2*i+1)).Perm hs∧(swpW hs' i (2*i+1)).drop n=hs.drop n):=⟨hD.out.1.swap (by rw[HLN.out];omega) LC.out hlt,by rw[jjay];exact HLN.out,(jjby (by rw[HLN.out];exact him) (by rw[HLN.out];exact hcm)).trans hD.out.2.2.1,(jjcn (by omega) (by omega)).trans hD.out.2.2.2⟩
     clear hlt LC hD hr;go_wp2_with (first
      | (go_at_call 228;refine HL20.out.mono ?_;rintro e w' ⟨rfl,q,rfl⟩)
      | (go_at_call 229;refine(HSW.out _).mono ?_;rintro e w' ⟨rfl,ho2,hb2,hg2⟩;have HO2:Hid (w'.ownsRow base 232 4 (.slice (some ⟨g,0,none⟩) m cap) m ((swpW hs' i (2*i+1)).flatMap encA)):=ho2;have HB2:Hid (Blk w' B #[.slice (some ⟨g,0,none⟩) m cap] 229):=hb2;have HG2:Hid (w.grownBy w' (some g)):=gTrans (gTrans hg.out (gNew (belowDN wr q))) hg2;clear ho2 hb2 hg2))
     go_roundw
     case rel=>exact ⟨2*i+1,swpW hs' i (2*i+1),by rw[ec],hcm,HD2,HO2,HB2,HG2⟩
     case measure=>simp [intOf];omega
    ·rw [decide_eq_false hlt]at HL2
     have HL20:Hid (Calls Tryz.prog 228 #[.slice (some ⟨g,0,none⟩) m cap,.int .i64 (2*(i:Int)+1),.int .i64 (i:Int)] wr fun e w'=>e= .returned (.bool false)∧∃ q2,w'=wr.drewN q2):=HL2.out 0;have HH:Hid (HeapW hs' n):=hD.out.1.stop LC.out hlt;clear hlt LC hr;go_wp2_with (first
      | (go_at_call 228;refine HL20.out.mono ?_;rintro e w' ⟨rfl,q,rfl⟩))
     go_ret;exact⟨⟨_,rfl⟩,hs',HH.out,hD.out.2.2.1,hD.out.2.2.2,⟨hO.out.1,hO.out.2⟩,hB.out.drewN q,gTrans hg.out (gNew (belowDN wr q))⟩
theorem whPush_any (B base:Nat)(v:Value)(hs:List Ar)(q:Ar)(w:World)(hB:Blk w B #[v] 229)(hown:w.ownsRow base 232 4 v hs.length (hs.flatMap encA))(hbase:base≤w.heap.size)(hn:hs.length≤9000000)(hH:HeapW hs hs.length):
  Calls Tryz.prog 173 #[.iface 230 (.pointer (some ⟨B,0,none⟩)),wayV q] w fun e w'=>e= .returned (.tuple #[])∧∃ v' hs',HeapW hs' hs'.length∧hs'.Perm (hs++[q])∧Blk w' B #[v'] 229∧w'.ownsRow base 232 4 v' hs'.length (hs'.flatMap encA)∧Near w v.ownBlock v'∧Turn2 w w' B v.ownBlock:=by
 have HP:Hid (Calls Tryz.prog 231 #[.pointer (some ⟨B,0,none⟩),wayV q] w fun e w'=>e= .returned (.tuple #[])∧∃ v',Blk w' B #[v'] 229∧w'.ownsRow base 232 4 v' (hs++[q]).length ((hs++[q]).flatMap encA)∧Near w v.ownBlock v'∧Turn2 w w' B v.ownBlock):=wPush_any B base v hs q w hB hown hbase (by omega);have HU:Hid (UpW (hs++[q]) hs.length):=UpW.start hH q
 have HL:Hid ((hs++[q]).length=hs.length+1):=by simp[Hid]
 have mP:=methW_push B w;generalize hs++[q]=hq at *;generalize hs.length=n at *;clear hB hown hH;generalize v.ownBlock=r at *;go_enter Tryz.func173,Tryz.ntmps173;go_wp2_with (first
  | (go_at_call 231;(with_reducible refine HP.out.mono ?_);rintro e w1 ⟨rfl,v1,hb1,ho1,hn1,ht1⟩;obtain⟨g1,cap1,hv1,_,_,_⟩:=own_someW ho1 (by rw[HL.out];omega);subst hv1;rw[HL.out]at ho1 hb1 hn1;have HB1:Hid (Blk w1 B #[.slice (some ⟨g1,0,none⟩) (n+1) cap1] 229):=hb1;have HO1:Hid (w1.ownsRow base 232 4 (.slice (some ⟨g1,0,none⟩) (n+1) cap1) (n+1) (hq.flatMap encA)):=ho1;have HN1:Hid (Near w r (.slice (some ⟨g1,0,none⟩) (n+1) cap1)):=hn1;have HT1:Hid (Turn2 w w1 B r):=ht1;have mN:=methW_len (hb1.cell 0 (v:= .slice (some ⟨g1,0,none⟩) (n+1) cap1) rfl);clear hb1 ho1 hn1 ht1)
  | (go_at_call 184;(with_reducible refine(wLen_any _ _ _ _).mono ?_);rintro e w2 ⟨rfl,rfl⟩)
  | (go_at_call 188;(with_reducible refine(wUp_any B base g1 (n+1) cap1 hq n _ HB1.out HO1.out HL.out (by omega) HU.out (by omega)).mono ?_);rintro e w3 ⟨rfl,hs3,hh3,hp3,ho3,hb3,hg3⟩))
 go_end0;have hl3:hs3.length=n+1:=by rw[hp3.length_eq];exact HL.out
 refine⟨rfl,_,hs3,by rw[hl3];exact hh3,hp3,hb3,by rw[hl3];exact ho3,HN1.out,HT1.out.trans (Turn2.grown hg3 B) ?_⟩
 rcases HN1.out with e | ⟨c,e,hc⟩
 ·exact .inl e
 ·exact .inr ⟨c,e,hc⟩
theorem whPop_any (B base:Nat)(v:Value)(hs:List Ar)(w:World)(hB:Blk w B #[v] 229)(hown:w.ownsRow base 232 4 v hs.length (hs.flatMap encA))(h0:0<hs.length)(hn:hs.length≤9000000)(hH:HeapW hs hs.length):
  Calls Tryz.prog 175 #[.iface 230 (.pointer (some ⟨B,0,none⟩))] w fun e w'=>∃ x,e= .returned (wayV x)∧∃ v' hs',HeapW hs' hs'.length∧(x::hs').Perm hs∧(∀ y ∈ hs',x.2.2.2≤y.2.2.2)∧Blk w' B #[v'] 229∧w'.ownsRow base 232 4 v' hs'.length (hs'.flatMap encA)∧v'.ownBlock=v.ownBlock∧Turn2 w w' B v.ownBlock:=by
 obtain⟨n,hl⟩:∃ n,hs.length=n+1:=⟨hs.length-1,by omega⟩
 rw[hl]at hown;obtain⟨g,cap,hv,_,_,_⟩:=own_someW hown (by omega)
 subst hv;have HLN:Hid (hs.length=n+1):=hl;have HH:Hid (HeapW hs hs.length):=hH;have mN:=methW_len (hB.cell 0 (v:= .slice (some ⟨g,0,none⟩) (n+1) cap) rfl);have mS:=methW_swap (hB.cell 0 (v:= .slice (some ⟨g,0,none⟩) (n+1) cap) rfl)
 have HSW:Hid (Calls Tryz.prog 229 #[.slice (some ⟨g,0,none⟩) (n+1) cap,.int .i64 0,.int .i64 (n:Int)] w fun e w'=>e= .returned (.tuple #[])∧w'.ownsRow base 232 4 (.slice (some ⟨g,0,none⟩) (n+1) cap) (n+1) ((swpW hs 0 n).flatMap encA)∧Blk w' B #[.slice (some ⟨g,0,none⟩) (n+1) cap] 229∧w.grownBy w' (some g)):=wkSwap (B:=B) hown hB hl (by omega) (i:=0) (j:=n) (by omega) (by omega)
 have HD:Hid (DownW (swpW hs 0 n) 0 n):=DownW.start hH hl;have HLS:Hid ((swpW hs 0 n).length=n+1):=by show _=_;rw[jjay];exact hl
 have mP:=methW_pop B;have h9:n≤9000000:=by omega
 clear hB hown hH hl hn h0;generalize hsw:swpW hs 0 n=hq at *;have HSQ:Hid (swpW hs 0 n=hq):=hsw;clear hsw;go_enter Tryz.func175,Tryz.ntmps175;go_wp2_with (first
  | (go_at_call 184;(with_reducible refine(wLen_any _ _ _ _).mono ?_);rintro e w2 ⟨rfl,rfl⟩)
  | (go_at_call 229;(with_reducible refine HSW.out.mono ?_);rintro e w1 ⟨rfl,ho1,hb1,hg1⟩;have HO1:Hid (w1.ownsRow base 232 4 (.slice (some ⟨g,0,none⟩) (n+1) cap) (n+1) (hq.flatMap encA)):=ho1;have HB1:Hid (Blk w1 B #[.slice (some ⟨g,0,none⟩) (n+1) cap] 229):=hb1;have HG1:Hid (w2.grownBy w1 (some g)):=hg1;clear ho1 hb1 hg1)
  | (go_at_call 189;(with_reducible refine(wDown_any B base g (n+1) cap n hq _ HB1.out HO1.out HLS.out (by omega) (by omega) HD.out).mono ?_);rintro e w3 ⟨⟨b3,rfl⟩,hs3,hh3,hp3,hd3,ho3,hb3,hg3⟩;have HO3:Hid (w3.ownsRow base 232 4 (.slice (some ⟨g,0,none⟩) (n+1) cap) hs3.length (hs3.flatMap encA)):=(by show World.ownsRow _ _ _ _ _ _ _;rw[hp3.length_eq,HLS.out];exact ho3);have HB3:Hid (Blk w3 B #[.slice (some ⟨g,0,none⟩) (n+1) cap] 229):=hb3;have HG3:Hid (w1.grownBy w3 (some g)):=hg3;have HF3:Hid (HeapW hs3 n∧hs3.Perm hq∧hs3.drop n=hq.drop n):=⟨hh3,hp3,hd3⟩;clear hh3 hp3 hd3 ho3 hb3 hg3)
  | (go_at_call 230;(with_reducible refine(wPop_any B base _ hs3 n _ HB3.out HO3.out (by rw[HF3.out.2.1.length_eq,HLS.out]) (by omega)).mono ?_);rintro e w4 ⟨rfl,v4,hb4,ho4,hr4,ht4⟩))
 have hpf:=popW_facts HH.out HLN.out (by rw[HSQ.out];exact HF3.out.2.1) (by rw[HSQ.out];exact HF3.out.2.2) HF3.out.1;have hl4:(hs3.take n).length=n:=by rw[List.length_take,HF3.out.2.1.length_eq,HLS.out];omega
 go_ret;refine⟨_,rfl,v4,hs3.take n,by rw[hl4];exact hpf.2.1,by rw[hpf.1];exact hpf.2.2.1,by rw[hpf.1];exact hpf.2.2.2,hb4,by rw[hl4];exact ho4,hr4,?_⟩
 exact(Turn2.grown (gTrans HG1.out HG3.out) B).trans ht4 (.inl rfl)
theorem labelAt_any (v:Value)(l:List Int)(i:Nat)(w:World)(h:Nums w v l)(hl:l.length≤12)(hi:i≤100):
  Calls Tryz.prog 194 #[v,.int .i64 (i:Int)] w fun e w'=>e= .returned (.int .i64 (atW l i))∧w=w':=by
 obtain⟨a,cap,rfl,hc⟩:=h.get
 unfold atW;by_cases hlt:i<l.length
 ·obtain ⟨b,off,rfl,hb,g0⟩:=hc i hlt
  rw[if_pos hlt];generalize el l i=y at *;have h1:¬ (l.length:Int)≤(i:Int):=by omega
  have h2:(0:Int)≤(i:Int):=by omega
  have h3:(i:Int)<(l.length:Int):=by omega
  clear h hc;generalize l.length=n at *;go_enter Tryz.func194,Tryz.ntmps194;go_wp2;go_ret;exact⟨rfl,rfl⟩
 ·rw [if_neg hlt]
  have h1:(l.length:Int)≤(i:Int):=by omega
  clear h hc;generalize l.length=n at *;go_enter Tryz.func194,Tryz.ntmps194;go_wp2;go_ret;exact⟨rfl,rfl⟩
end Go.Proofs.YtppkiejhhmahcaaGreatDoor.Wt
