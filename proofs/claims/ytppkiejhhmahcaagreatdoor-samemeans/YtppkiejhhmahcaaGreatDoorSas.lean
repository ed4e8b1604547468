/- Facts, joined. -/
import Derived.Test.YtppkiejhhmahcaaGreatDoorSar
import Derived.Test.YtppkiejhhmahcaaGreatDoorShelg
import Derived.Test.YtppkiejhhmahcaaGreatDoorSap
set_option linter.unusedSimpArgs false
set_option linter.unusedVariables false
set_option maxHeartbeats 3200000
set_option maxRecDepth 100000
namespace Go.Proofs.YtppkiejhhmahcaaGreatDoor.Wt
open ChangeShapes WideShapes ChangeAt RowKit Pl
theorem flat_same {α:Type}[Inhabited α]{k:Nat}{enc:α→List Value}(hk:∀ x,(enc x).length=k)(hk0:0<k)(xs:List α):(Go.Sort.flatK enc k xs.toArray).toList=xs.flatMap enc:=by
 apply List.ext_getElem?
 intro t;by_cases ht:t<xs.length*k
 ·have hq:t / k<xs.length:=(Nat.div_lt_iff_lt_mul hk0).2 ht
  have hm:t % k<k:=Nat.mod_lt _ hk0;have he:t / k*k+t % k=t:=by rw[Nat.mul_comm];exact Nat.div_add_mod t k
  have h2:=jjas hk xs (t / k) hq (t % k) hm;rw[he]at h2;rw[h2];have h1:=Go.Sort.get_flatK enc k xs.toArray t (by simpa using ht);have hs:t<(Go.Sort.flatK enc k xs.toArray).size:=by simpa using ht
  rw[getElem!_pos _ t hs]at h1;rw[List.getElem?_eq_getElem (by simpa using hs),Array.getElem_toList,h1];have e1:xs.toArray[t / k]! =el xs (t / k):=by simp[el,hq]
  rw[e1,List.getElem?_eq_getElem (by rw[hk];exact hm),getElem!_pos _ _ (by rw[hk];exact hm)]
 ·rw [List.getElem?_eq_none (by simp;omega),List.getElem?_eq_none (by rw[jjai hk];omega)]
structure KeyAt (w:World)(K:Nat)(s:Bool):Prop where
 lt:K<w.heap.size
 c0:w.cell? ⟨K,0,none⟩=some (.int .i64 (if s then 1 else 0))
 c1:w.cell? ⟨K,1,none⟩=some (.int .i64 (if s then 0 else 1))
 c2:w.cell? ⟨K,2,none⟩=some (.int .i64 2)
 c3:w.cell? ⟨K,3,none⟩=some (.int .i64 3)
theorem KeyAt.same {w w':World}{K:Nat}{s:Bool}(h:KeyAt w K s)(hs:w.heap.size≤w'.heap.size)(he:∀ i,w'.cell? ⟨K,i,none⟩=w.cell? ⟨K,i,none⟩):KeyAt w' K s:=
 ⟨Nat.lt_of_lt_of_le h.lt hs,(he _).trans h.c0,(he _).trans h.c1,(he _).trans h.c2,(he _).trans h.c3⟩
theorem KeyAt.below {w w':World}{K B:Nat}{s:Bool}(h:KeyAt w K s)(hb:Below B w w')(hB:K<B):KeyAt w' K s:=h.same hb.size fun i=>hb.cell hB
theorem jjdn (s:Bool):(Go.Proofs.ltOf (cmpS s))=aheadS s:=by
 funext a b
 exact cmpS_neg s a b
theorem swo_ahead (s:Bool):Go.Sort.SWO (aheadS s):=by
 cases s
 ·exact ⟨fun x=>jjc7 x,fun x y z h1 h2=>ahead_lt h1 h2,fun x y z h1 h2=>jjcw h2 h1⟩
 ·exact ⟨fun x=>jjc7 (flipA x),fun x y z h1 h2=>ahead_lt (a:=flipA x) (b:=flipA y) (c:=flipA z) h1 h2,fun x y z h1 h2=>jjcw (a:=flipA z) (b:=flipA y) (c:=flipA x) h2 h1⟩
theorem total_ahead (s:Bool)(x y:Ar)(h1:aheadS s x y=false)(h2:aheadS s y x=false):x=y:=by
 cases s
 ·exact jjdf h1 h2
 ·have h:=jjdf (a:=flipA x) (b:=flipA y) h1 h2
  exact congrArg flipA h
theorem cmp_lays (s:Bool)(K g n:Nat)(w:World)(hK:KeyAt w K s)(hg:g<w.heap.size)(hne:K≠g):Go.Proofs.CmpLays Tryz.prog 126 #[.pointer (some ⟨K,0,none⟩)] encA 4 (cmpS s) g 0 n w:=by
 intro m os dk hdk x y;have hs:w.heap.size≤(Go.Proofs.sortWorldK encA 4 w g 0 m dk os).heap.size:=by
  simp[Go.Proofs.sortWorldK,Go.Sort.putRowK,Go.Sort.putRow,Go.Sort.mapBlock,Go.Sort.ahead]
 have hp:w.heap.size≤(Go.Sort.putRow id (Go.Sort.ahead w m) g 0 (Go.Sort.flatK encA 4 dk)).heap.size:=by simp[Go.Sort.putRow,Go.Sort.mapBlock,Go.Sort.ahead]
 have hc:∀ i,(Go.Proofs.sortWorldK encA 4 w g 0 m dk os).cell? ⟨K,i,none⟩=w.cell? ⟨K,i,none⟩:=fun i=>by
  unfold Go.Proofs.sortWorldK Go.Sort.putRowK;rw[Go.Sort.cell?_grow _ _ _ (Nat.lt_of_lt_of_le hK.lt hp),Go.Sort.cell?_putRow_other _ _ _ _ _ _ (.inl hne)];rfl
 have hK':=hK.same hs hc;exact(order_any s x y K _ _ _ ⟨rfl,rfl⟩ hK'.lt hK'.c0 hK'.c1 hK'.c2 hK'.c3).mono fun e w' ⟨he,hb,hd⟩=>⟨he,later_grow hb hd⟩
theorem own_sorted {w:World}{base g cap m:Nat}{l r:List Ar}{cur:Array Value}{os:Array Obj}(hb:base≤g)(hh:w.heap[g]? =some (.cells cur 56 (0,0)))(hn:l.length≤cap)(hcap:cap≤maxLen)(hcs:cur.size=cap*4)(hr:r.length=l.length):
  (Go.Proofs.sortWorldK encA 4 w g 0 m r.toArray os).ownsRow base 56 4 (.slice (some ⟨g,0,none⟩) l.length cap) l.length (r.flatMap encA)∧w.grownBy (Go.Proofs.sortWorldK encA 4 w g 0 m r.toArray os) (some g):=by
 have hlt:g<w.heap.size:=lt_of_block hh;have hF:(Go.Sort.flatK encA 4 r.toArray).toList=r.flatMap encA:=flat_same jjah (by decide) r;have hFs:(Go.Sort.flatK encA 4 r.toArray).size=l.length*4:=by simp[hr]
 constructor
 ·refine ⟨by rw[jjai jjah,hr],.inr ⟨g,cap,Go.Sort.putCells id 0 (Go.Sort.flatK encA 4 r.toArray) cur,rfl,hb,?_,hn,hcap,?_,?_⟩⟩
  ·simp only[Go.Proofs.sortWorldK,Go.Sort.putRowK,Go.Sort.putRow,Go.Sort.mapBlock,Go.Sort.grow,Go.Sort.ahead]
   rw[Array.getElem?_append_left (by simpa using hlt),Array.getElem?_modify,if_pos rfl,hh];rfl
  ·simp [Go.Sort.putCells,hcs]
  ·rw [← hF]
   apply List.ext_getElem?
   intro t;by_cases ht:t<l.length*4
   ·have hc:t<cur.size:=by rw[hcs];exact Nat.lt_of_lt_of_le ht (Nat.mul_le_mul_right _ hn)
    rw[List.getElem?_take_of_lt ht];simp only[Go.Sort.putCells,Array.getElem?_toList,Array.getElem?_mapIdx,Array.getElem?_eq_getElem hc,Option.map_some];rw[if_pos ⟨Nat.zero_le _,by rw[hFs];omega⟩,Array.getElem?_eq_getElem (by rw[hFs];exact ht)];simp[getElem!_pos,hr,ht]
   ·rw [List.getElem?_eq_none (by simp;omega),List.getElem?_eq_none (by rw[Array.length_toList,hFs];omega)]
 ·refine ⟨rfl,rfl,rfl,by simp[Go.Proofs.sortWorldK,Go.Sort.putRowK,Go.Sort.putRow,Go.Sort.mapBlock,Go.Sort.ahead],fun k hk hne=>?_⟩
  simp only[Go.Proofs.sortWorldK,Go.Sort.putRowK,Go.Sort.putRow,Go.Sort.mapBlock,Go.Sort.grow,Go.Sort.ahead];rw[Array.getElem?_append_left (by simpa using hk),Array.getElem?_modify,if_neg (by intro e;exact hne (by rw[e]))]
theorem sort_own (s:Bool)(K base:Nat)(v:Value)(l:List Ar)(w:World)(hK:KeyAt w K s)(hKb:K<base)(hv:w.ownsRow base 56 4 v l.length (l.flatMap encA))(hl:l.length<4611686018427387904):
  Calls Tryz.prog 78 #[v,.func (.func 126) #[] #[.pointer (some ⟨K,0,none⟩)]] w fun e w'=>e= .returned (.tuple #[])∧w'.ownsRow base 56 4 v l.length ((sortS s l).flatMap encA)∧w.grownBy w' v.ownBlock:=by
 have hv':=hv;by_cases h0:l.length=0
 ·obtain rfl:l=[]:=List.eq_nil_of_length_eq_zero h0
  obtain⟨a,cap,rfl⟩:=jjbx hv
  exact(AnyF.slices_SortFunc_none Tryz.sortArc a cap _ w).mono fun e w' ⟨he,hw⟩=>⟨he,by subst hw;simpa [sortS] using hv',by subst hw;exact World.grownBy.refl _ _⟩
 ·rcases hv.2 with⟨_,h⟩ | ⟨g,cap,cur,rfl,hb,hh,hn,hcap,hcs,htk⟩
  ·exact absurd h h0
  ·have hlt:g<w.heap.size:=lt_of_block hh
   have eg:∀ args w,(callFunc 126 args).run Tryz.prog w= .ok (.enter 126 args) w:=enters_of Tryz.func126 (by kernel_rfl) rfl;have hH:Go.Sort.HoldsK encA 4 w g 0 l.toArray:=by
    intro j hj;have hF:(Go.Sort.flatK encA 4 l.toArray).toList=l.flatMap encA:=flat_same jjah (by decide) l;have hj':j<l.length*4:=by simpa using hj
    have h1:=hv'.cellAt j hj';rw[Nat.zero_add,h1];refine⟨?_,hv'.frozenAt j⟩
    rw[← hF,List.getElem?_eq_getElem (by simpa using hj),Array.getElem_toList,getElem!_pos (Go.Sort.flatK encA 4 l.toArray) j hj];rfl
   have hc:=AnyQ.slices_SortFunc_total Tryz.sortArc 4 Tryz.isAgg56 Tryz.sizeOf56 encA jjah jjch (cmpS s) (by rw[jjdn];exact swo_ahead s) 126 #[.pointer (some ⟨K,0,none⟩)] g 0 cap l.toArray w eg (cmp_lays s K g _ w hK hlt (by omega)) hH hlt (by simpa using hl) (by rw[jjdn];exact total_ahead s);rw[jjdn]at hc;refine Calls.mono (R:=_) hc ?_
   rintro e w' ⟨he,m,os,hw⟩
   subst hw
   have:=own_sorted (m:=m) (os:=os) (r:=sortS s l) hb hh hn hcap hcs (jjbk s l);exact⟨he,this.1,this.2⟩
def PutAt (g:Nat)(lb:Array Value)(f:List Ar→List Ar)(w0:World):Prop:=
  ∀ (W:World) (base:Nat) (v:Value) (l:List Ar),Below w0.heap.size w0 W→w0.heap.size≤base→W.ownsRow base 56 4 v l.length (l.flatMap encA)→l.length*32≤140737488351232→
    Calls Tryz.prog g (#[v]++lb) W fun e w'=>∃ v',e= .returned v'∧w'.ownsRow base 56 4 v' (f l).length ((f l).flatMap encA)∧W.grownBy w' v.ownBlock
theorem sorted_same (s:Bool)(K F:Nat)(w0 W:World)(base:Nat)(v:Value)(l:List Ar)(hK:KeyAt w0 K s)(hF:F<w0.heap.size)(hc:w0.cell? ⟨F,0,none⟩=some (.func (.func 126) #[] #[.pointer (some ⟨K,0,none⟩)]))
  (hW:Below w0.heap.size w0 W) (hB:w0.heap.size≤base) (hv:W.ownsRow base 56 4 v l.length (l.flatMap encA)) (hl:l.length*32≤140737488351232):
  Calls Tryz.prog 77 #[v,.pointer (some ⟨F,0,none⟩)] W fun e w'=>e= .returned v∧w'.ownsRow base 56 4 v (sortS s l).length ((sortS s l).flatMap encA)∧W.grownBy w' v.ownBlock:=by
 have hc':=(hW.cell (p:=⟨F,0,none⟩) hF).trans hc;have HC:Hid (Calls Tryz.prog 78 #[v,.func (.func 126) #[] #[.pointer (some ⟨K,0,none⟩)]] W fun e w'=>e= .returned (.tuple #[])∧w'.ownsRow base 56 4 v l.length ((sortS s l).flatMap encA)∧W.grownBy w' v.ownBlock):=
  sort_own s K base v l W (hK.below hW hK.lt) (Nat.lt_of_lt_of_le hK.lt hB) hv (by omega)
 have HL:Hid ((sortS s l).length=l.length):=jjbk s l;obtain⟨a,cap,rfl⟩:=jjbx hv
 clear hc hK hW hv;go_enter Tryz.func77,Tryz.ntmps77;go_wp2_with (first | (go_at_call 78;(with_reducible refine HC.out.mono ?_);rintro e w' ⟨rfl,ho,hg⟩;have HO:Hid (w'.ownsRow base 56 4 (.slice a l.length cap) (sortS s l).length ((sortS s l).flatMap encA)):=(by rw[HL.out];exact ho);have HG:Hid (W.grownBy w' (Value.ownBlock (.slice a l.length cap))):=hg;clear ho hg));go_ret;exact⟨rfl,HO.out,HG.out⟩
theorem put_sort (s:Bool)(K F:Nat)(w0:World)(hK:KeyAt w0 K s)(hF:F<w0.heap.size)(hc:w0.cell? ⟨F,0,none⟩=some (.func (.func 126) #[] #[.pointer (some ⟨K,0,none⟩)])):
  PutAt 77 #[.pointer (some ⟨F,0,none⟩)] (sortS s) w0:=
 fun W base v l hW hB hv hl=>(sorted_same s K F w0 W base v l hK hF hc hW hB hv hl).mono fun _ _ ⟨he,ho,hg⟩=>⟨v,he,ho,hg⟩
theorem ordering_any (a b c d:Int)(w:World):Calls Tryz.prog 76 #[.agg #[.int .i64 a,.int .i64 b,.int .i64 c,.int .i64 d]] w fun e w'=>e= .returned (.func (.func 126) #[] #[.pointer (some ⟨w.heap.size,0,none⟩)])∧w'=w.alloc (.cells #[.int .i64 a,.int .i64 b,.int .i64 c,.int .i64 d] 61):=by
 go_enter Tryz.func76,Tryz.ntmps76;go_wp2;go_ret;exact⟨rfl,rfl⟩
def SortV (s:Bool)(v:Value)(w:World):Prop:=∃ F K,v= .func (.func 77) #[] #[.pointer (some ⟨F,0,none⟩)]∧F<w.heap.size∧KeyAt w K s∧w.cell? ⟨F,0,none⟩=some (.func (.func 126) #[] #[.pointer (some ⟨K,0,none⟩)])
theorem jjep (s:Bool)(k0 k1:Int)(w:World)(hs:k0=(if s then 1 else 0)∧k1=(if s then 0 else 1)):
  Calls Tryz.prog 33 #[.agg #[.int .i64 k0,.int .i64 k1,.int .i64 2,.int .i64 3]] w fun e w'=>∃ v,e= .returned v∧SortV s v w'∧Below w.heap.size w w':=by
 have HS:Hid (k0=(if s then 1 else 0)∧k1=(if s then 0 else 1)):=hs;clear hs;go_enter Tryz.func33,Tryz.ntmps33;go_wp2_with (first | (go_at_call 76;(with_reducible refine(ordering_any _ _ _ _ _).mono ?_);rintro e w' ⟨rfl,rfl⟩));go_ret;refine⟨_,rfl,⟨w.heap.size+1+1,w.heap.size+1,rfl,by simp,⟨by simp,?_,?_,?_,?_⟩,by go_cell⟩,by go_grown⟩
 ·rw [← HS.out.1];go_cell
 ·rw [← HS.out.2];go_cell
 ·go_cell
 ·go_cell
theorem boxed2 {w w1:World}{c0 c1:Array Value}{t0 t1:TypeId}{n:Nat}(hb:Below n ((w.alloc (.cells c0 t0)).alloc (.cells c1 t1)) w1)(hn:n=w.heap.size+2):w.heap.size+2≤w1.heap.size∧Blk w1 w.heap.size c0 t0∧Blk w1 (w.heap.size+1) c1 t1∧Below w.heap.size w w1:=by
 subst hn;have h:=hb.size;simp only[World.size_alloc]at h;have k1:=Blk.made (w.alloc (.cells c0 t0)) c1 t1;simp only[World.size_alloc]at k1;exact⟨h,((Blk.made w c0 t0).alloc _).below hb (by omega),k1.below hb (by omega),(((Below.refl _ _).alloc (Nat.le_refl _) _).alloc (by simp) _).trans (hb.mono (by omega))⟩
theorem jjbr {B:Nat}{w w':World}(h:Below B w.drew w'):Below B w w':=⟨h.os,h.tape,h.output,h.size,h.block⟩
def HeldN (B:Nat)(z:Int)(v:Value)(w:World):Prop:=w.cell? ⟨B,0,none⟩=some (.int .i64 z)∧w.cell? ⟨B,1,none⟩=some v
def HeldR (B:Nat)(f:Int)(w:World):Prop:=w.cell? ⟨B,0,none⟩=some (.int .i64 f)
theorem arranged_ok (v:Value)(m:Mc)(w:World)(h:Mach w v m)(hok:okM m)(g:Nat)(lb:Array Value)(f:List Ar→List Ar)(eg:∀ ar W,(callFunc g ar).run Tryz.prog W= .ok (.enter g ar) W)(hp:PutAt g lb f w)(hr:faultM m=0):
  Calls Tryz.prog 32 #[v,.func (.func g) #[] lb] w fun e w'=>∃ v',e= .returned (.tuple #[v',.int .i64 0])∧MachFrom w.heap.size w' v' (mapM f m)∧Below w.heap.size w w':=by
 obtain⟨i0,hi0,hz0,hz1,hz2⟩:=info_parts infoArc
 obtain⟨i1,hi1,hy0,hy1,hy2⟩:=info_parts infoState
 obtain⟨z,l⟩:=m
 obtain⟨vs,rfl,hS⟩:=h
 obtain⟨a,cap,rfl,hc⟩:=hS.get
 have H60:Hid (l.length≤60):=(jjae hr).1;have HM:Hid (Mach w (.agg #[.int .i64 z,.slice a l.length cap]) (z,l)):=⟨_,rfl,hS⟩
 have HK:Hid (okM (z,l)):=hok;have HR:Hid (faultM (z,l)=0):=hr;have HP:Hid (PutAt g lb f w):=hp;have HC:Hid (∀ j,j<l.length→∃ b off va,a=some ⟨b,off,none⟩∧b<w.heap.size∧w.cell? ⟨b,off+j*2,none⟩=some (.int .i64 (el l j).1)∧w.cell? ⟨b,off+j*2+1,none⟩=some va∧Arcs w va (el l j).2):=hc;clear hS hc hok hr hp;simp only;generalize hn:l.length=n at *;have HN:Hid (l.length=n):=hn;clear hn;have h60:=H60.out
 have hmk:∀ W:World,(Instr.makeSlice 22 (.int .i64 (n:Int)) (.int .i64 (n:Int))).run Tryz.prog W= .ok (.slice (some ⟨W.heap.size,0,none⟩) n n) (W.alloc (.cells ((List.replicate n ((0:Int),Value.slice none 0 0)).flatMap encS).toArray 45)):=fun W=>by
  have h:=run_make (P:=Tryz.prog) W 22 45 i1 _ Tryz.underlying22 hi1 hy0 .i64 .i64 n n (by omega) (by omega) (by rw[hy2];omega) (by omega);rw[hy1,Int.toNat_natCast,jjfq]at h;exact h
 clear h60;go_enter Tryz.func32,Tryz.ntmps32;go_wp2_with (first
   | (go_at_call 45;(with_reducible refine(jjal _ (z,l) _ (HM.out.later (B:=w.heap.size) (by go_grown) (Nat.le_refl _)) HK.out _ HR.out).mono ?_);rintro e w1 ⟨rfl,hb⟩;obtain⟨s1,k0,k1,hb1⟩:=boxed2 hb (by simp);have HB1:Hid (Below w.heap.size w w1):=hb1;have K0:Hid (Blk w1 w.heap.size #[.int .i64 z,.slice a n cap] 24):=k0;have K1:Hid (Blk w1 (w.heap.size+1) #[.int .i64 0,.slice none 0 0] 24):=k1;have c1:=k0.cell 1 (v:= .slice a n cap) rfl;have s2:w.heap.size<w1.heap.size:=(by omega);have s3:w.heap.size+1<w1.heap.size:=(by omega);clear hb hb1 k0 k1))
 have HW:Hid (w.heap.size+2≤w1.heap.size):=s1
 go_loopw [24] (fun i wr=>∃ (k:Nat) (vs:List (Int × Value)),k≤n∧i= .int .i64 k∧vs.length=n∧Hid (Blk wr w1.heap.size (vs.flatMap encS).toArray 45)∧Hid (∀ j,j<k→(el vs j).1=(el l j).1∧wr.ownsRow (w1.heap.size+1) 56 4 (el vs j).2 (f (el l j).2).length ((f (el l j).2).flatMap encA))∧Hid (Blk wr w.heap.size #[.int .i64 z,.slice a n cap] 24)∧Hid (Blk wr (w.heap.size+1) #[.int .i64 0,.slice none 0 0] 24)∧Hid (Below w.heap.size w wr)∧w1.heap.size+1≤wr.heap.size) (fun i _=>n-(intOf i).toNat)
 case atStart=>exact ⟨0,List.replicate n ((0:Int),Value.slice none 0 0),Nat.zero_le _,rfl,by simp,Blk.made _ _ _,fun j hj=>absurd hj (Nat.not_lt_zero _),K0.out.alloc _,K1.out.alloc _,HB1.out.alloc HB1.out.size _,by simp⟩
 case round=>
  obtain⟨k,vs,hk,rfl,hvl,hbs,hold,hk0,hk1,hb,hws⟩:=hrel
  have c1:=hk0.out.cell 1 (v:= .slice a n cap) rfl;by_cases hlt:k<n
  ·obtain ⟨b,off,va,rfl,hbl,g0,g1,gA⟩:=HC.out k hlt
   have g0:=(hb.out.cell (p:=⟨b,off+k*2,none⟩) hbl).trans g0;have g1:=(hb.out.cell (p:=⟨b,off+k*2+1,none⟩) hbl).trans g1;have GA:Hid (Arcs (wr.alloc (.cells #[.int .i64 (el l k).1,va] 45)) va (el l k).2):=(gA.later hb.out (Nat.le_refl _)).later ((Below.refl _ _).alloc (Nat.le_refl _) _) (Nat.le_refl _)
   have HLK:Hid ((el l k).2.length*32≤140737488351232):=HK.out.2 k (by show k<l.length;rw[HN.out];exact hlt);have hk0':(0:Int)≤(k:Int):=Int.natCast_nonneg _;have hk1':(k:Int)<(n:Int):=by omega
   obtain⟨a2,cap2,hva⟩:=GA.out.sl
   subst hva;clear gA;go_wp2_with (first
    | (at_builtin;refine jjav jjah (by decide) jjch rfl _ _ 43 rfl (wr.heap.size+1) 56 i0 _ 32 Tryz.underlying43 hi0 hz0 hz1 hz2 rfl (.slice none 0 0) 0 [] rfl (World.ownsRow_nil _ _ _ _) _ (el l k).2 rfl GA.out (by have:=HLK.out;unfold maxLen;omega) (by have:=HLK.out;omega) (by simp) ?_;intro v1 w2 ho1 hg1))
   have ho1':=own_zero ho1;obtain⟨a1,cp1,rfl⟩:=jjbx ho1'
   have B1:Below (wr.heap.size+1) (wr.alloc (.cells #[.int .i64 (el l k).1,.slice a2 (el l k).2.length cap2] 45)) w2:=below_new (by simp) hg1;have B1':Below wr.heap.size wr w2:=((Below.refl _ _).alloc (Nat.le_refl _) _).trans (B1.mono (by omega));have HCC:=HP.out w2.drew (wr.heap.size+1) _ (el l k).2 ((hb.out.trans (B1'.mono hb.out.size)).drew) (by have:=hb.out.size;omega) ho1' HLK.out
   have HB0:=(Blk.made wr #[.int .i64 (el l k).1,.slice a2 (el l k).2.length cap2] 45).below B1 (Nat.lt_succ_self _);have HS:HeldR wr.heap.size (el l k).1 w2.drew:=HB0.cell 0 rfl;refine jjaf (HeldR wr.heap.size (el l k).1) 9 (by kernel_rfl) ?_
   refine jjaa (v:=?v0_1) aZ0 ?y0_1 HS ?r0_1
   case y0_1=>intro wx hx;have h1:wx.cell? ⟨wr.heap.size,0,none⟩=some (.int .i64 (el l k).1):=hx;go_simp;try (with_reducible rfl)
   simp only[Act.put,sA,sB,sC];refine jjaa (v:=?v1_2) aZ1 ?y1_2 HS ?r1_2
   case y1_2=>intro wx hx;have h1:wx.cell? ⟨wr.heap.size,0,none⟩=some (.int .i64 (el l k).1):=hx;go_simp;try (with_reducible rfl)
   simp only[Act.put,sA,sB,sC];refine jjaa (v:=?v2_3) aZ2 ?y2_3 HS ?r2_3
   case y2_3=>intro wx hx;have h1:wx.cell? ⟨wr.heap.size,0,none⟩=some (.int .i64 (el l k).1):=hx;go_simp;try (with_reducible rfl)
   simp only[Act.put,sA,sB,sC];refine jjaa (v:=?v3_4) aZ3 ?y3_4 HS ?r3_4
   case y3_4=>intro wx hx;have h1:wx.cell? ⟨wr.heap.size,0,none⟩=some (.int .i64 (el l k).1):=hx;go_simp;try (with_reducible rfl)
   simp only[Act.put,sA,sB,sC];refine jjaa (v:=?v4_5) aZ4 ?y4_5 HS ?r4_5
   case y4_5=>intro wx hx;have h1:wx.cell? ⟨wr.heap.size,0,none⟩=some (.int .i64 (el l k).1):=hx;go_simp;try (with_reducible rfl)
   simp only[Act.put,sA,sB,sC];refine jjaa (v:=?v5_6) aZ5 ?y5_6 HS ?r5_6
   case y5_6=>intro wx hx;have h1:wx.cell? ⟨wr.heap.size,0,none⟩=some (.int .i64 (el l k).1):=hx;go_simp;try (with_reducible rfl)
   simp only[Act.put,sA,sB,sC];refine jjab aZ6 (fun K hK=>?_)
   go_simp;refine HCC.mono ?_
   rintro e w3 ⟨v3,rfl,ho3,hg3⟩
   obtain⟨a3,cp3,rfl⟩:=jjbx ho3
   have B3:Below (wr.heap.size+1) w2.drew w3:=(Below.refl _ _).grown hg3 (by have:=B1.size;simp only[World.size_alloc]at this;exact this) (fun q hq=>((ho1'.lt q hq).1));have B3':Below (wr.heap.size+1) w2 w3:=⟨B3.os,B3.tape,B3.output,B3.size,B3.block⟩
   have HS3:HeldR wr.heap.size (el l k).1 w3:=(HB0.below B3' (Nat.lt_succ_self _)).cell 0 rfl;have BW:Below wr.heap.size wr w3:=B1'.trans (B3'.mono (by omega));have hbs3:Blk w3 w1.heap.size (vs.flatMap encS).toArray 45:=hbs.out.below BW (by omega);have e0:=hbs3.cell (k*2) (v:= .int .i64 (el vs k).1) (by rw[List.getElem?_toArray];exact jjas jja9 vs k (by omega) 0 (by omega))
   have e1:=hbs3.cell (k*2+1) (v:=(el vs k).2) (by rw[List.getElem?_toArray];exact jjas jja9 vs k (by omega) 1 (by omega));have f0:=hbs3.fz (k*2);have f1:=hbs3.fz (k*2+1);refine hK _ _ (.inr HS3) ?_
   try simp only[Act.put,sA,sB,sC]
   refine jjaa (v:=?v7_7) aZ7 ?y7_7 HS3 ?r7_7
   case y7_7=>intro wx hx;have h1:wx.cell? ⟨wr.heap.size,0,none⟩=some (.int .i64 (el l k).1):=hx;go_simp;try (with_reducible rfl)
   simp only[Act.put,sA,sB,sC];refine jjaa (v:=?v8_8) aZ8 ?y8_8 HS3 ?r8_8
   case y8_8=>intro wx hx;have h1:wx.cell? ⟨wr.heap.size,0,none⟩=some (.int .i64 (el l k).1):=hx;go_simp;try (with_reducible rfl)
   simp only[Act.put,sA,sB,sC];refine jjab aZ9 (fun K hK=>?_)
   go_simp;refine hK _ _ (.inl rfl) (jjad (by kernel_rfl) (NoPanic.normal ?_))
   try simp only[Act.put,sA,sB,sC]
   have R1:Hid (Blk ((w3.setCell ⟨w1.heap.size,k*2,none⟩ (.int .i64 (el l k).1)).setCell ⟨w1.heap.size,k*2+1,none⟩ (.slice a3 (f (el l k).2).length cp3)) w1.heap.size ((vs.set k ((el l k).1,.slice a3 (f (el l k).2).length cp3)).flatMap encS).toArray 45):=by
    have h:=(hbs3.set (k*2) (.int .i64 (el l k).1)).set (k*2+1) (.slice a3 (f (el l k).2).length cp3);rw[jjfr (by omega) ((el l k).1,.slice a3 (f (el l k).2).length cp3)]at h;exact h
   have R2:Hid (∀ j,j<k+1→(el (vs.set k ((el l k).1,.slice a3 (f (el l k).2).length cp3)) j).1=(el l j).1∧((w3.setCell ⟨w1.heap.size,k*2,none⟩ (.int .i64 (el l k).1)).setCell ⟨w1.heap.size,k*2+1,none⟩ (.slice a3 (f (el l k).2).length cp3)).ownsRow (w1.heap.size+1) 56 4 (el (vs.set k ((el l k).1,.slice a3 (f (el l k).2).length cp3)) j).2 (f (el l j).2).length ((f (el l j).2).flatMap encA)):=by
    intro j hj;rw[el_setS (by omega)];by_cases hjk:j=k
    ·subst hjk
     rw[if_pos rfl];exact⟨rfl,ownsRow_setCell_below (ownsRow_setCell_below (own_mono (base':=w1.heap.size+1) ho3 (by omega)) (Nat.lt_succ_self _) _) (Nat.lt_succ_self _) _⟩
    ·rw [if_neg hjk]
     obtain⟨q1,q2⟩:=hold.out j (by omega)
     exact⟨q1,ownsRow_setCell_below (ownsRow_setCell_below (jjco q2 BW) (Nat.lt_succ_self _) _) (Nat.lt_succ_self _) _⟩
   have R3:Hid (Blk ((w3.setCell ⟨w1.heap.size,k*2,none⟩ (.int .i64 (el l k).1)).setCell ⟨w1.heap.size,k*2+1,none⟩ (.slice a3 (f (el l k).2).length cp3)) w.heap.size #[.int .i64 z,.slice (some ⟨b,off,none⟩) n cap] 24):=((hk0.out.below BW (by omega)).setO _ _ (by show w.heap.size≠w1.heap.size;omega)).setO _ _ (by show w.heap.size≠w1.heap.size;omega)
   have R4:Hid (Blk ((w3.setCell ⟨w1.heap.size,k*2,none⟩ (.int .i64 (el l k).1)).setCell ⟨w1.heap.size,k*2+1,none⟩ (.slice a3 (f (el l k).2).length cp3)) (w.heap.size+1) #[.int .i64 0,.slice none 0 0] 24):=((hk1.out.below BW (by omega)).setO _ _ (by show w.heap.size+1≠w1.heap.size;omega)).setO _ _ (by show w.heap.size+1≠w1.heap.size;omega)
   have R5:Hid (Below w.heap.size w ((w3.setCell ⟨w1.heap.size,k*2,none⟩ (.int .i64 (el l k).1)).setCell ⟨w1.heap.size,k*2+1,none⟩ (.slice a3 (f (el l k).2).length cp3))):=((hb.out.trans (BW.mono hb.out.size)).setCell (by show w.heap.size≤w1.heap.size;omega) _).setCell (by show w.heap.size≤w1.heap.size;omega) _;have R6:Hid (w1.heap.size+1≤w3.heap.size):=Nat.le_trans hws BW.size
   clear ho1 ho1' ho3 hg1 hg3 B1 B1' B3 B3' BW hbs3 HB0 HCC HS HS3 hold hbs hk0 hk1;have h60:n≤60:=H60.out;go_wp2;go_roundw
   case rel=>exact ⟨k+1,_,by omega,by go_num,by simp[hvl],R1,R2,R3,R4,R5,by simp[World.setCell];exact R6.out⟩
   case measure=>simp [intOf];omega
  ·have hke:k=n:=by omega
   have hnl:¬ (k:Int)<(n:Int):=by omega
   have HX:Hid (∀ w',Agree w1.heap.size wr w'→Sts w' (.slice (some ⟨w1.heap.size,0,none⟩) n n) (l.map fun s=>(s.1,f s.2))):=by
    intro w' hg;have hl2:(l.map fun s=>(s.1,f s.2)).length=n:=by simp;exact HN.out
    have:=jjfs (l:=l.map fun s=>(s.1,f s.2)) (B:=w1.heap.size+1) (w:=w') (blk_agree hbs.out (Nat.le_refl _) hg) (by rw[hl2];exact hvl) (fun j hj=>by
     have hj':j<l.length:=by simpa using hj
     rw[jja2 hj']
     obtain⟨q1,q2⟩:=hold.out j (by rw[hke,← HN.out];exact hj')
     exact⟨q1,own_agree q2 (hg.mono (Nat.le_succ _))⟩)
    rw[hl2]at this;exact this
   have d0:=hk0.out.cell 0 (v:= .int .i64 z) rfl;have e0:=hk1.out.cell 0 (v:= .int .i64 0) rfl;have e1:=hk1.out.cell 1 (v:= .slice none 0 0) rfl;have e2:=hk1.out.fz 0;have e3:=hk1.out.fz 1;have HB:Hid (Below w.heap.size w wr):=hb;clear hold hbs hb hke hk0 hk1;go_wp2
   refine bodyPost_ret (v:= .tuple #[.agg #[.int .i64 z,.slice (some ⟨w1.heap.size,0,none⟩) n n],.int .i64 0]) (by simp[results,Tryz.results32,go_sem, *]) rfl ⟨_,rfl,fun w' hg=>⟨_,rfl,?_⟩,by (have h:=HB.out);go_grown⟩
   exact HX.out w' (((jjc8 (by show w.heap.size+1<_;omega) _).trans (by simp[World.setCell]) (jjc8 (by show w.heap.size+1<_;omega) _)).trans (by simp[World.setCell]) (hg.mono (by omega)))
theorem arranged_bad (v:Value)(m:Mc)(w:World)(h:Mach w v m)(hok:okM m)(g:Nat)(lb:Array Value)(r:Int)(hr:faultM m=r)(h0:r≠0):
  Calls Tryz.prog 32 #[v,.func (.func g) #[] lb] w fun e w'=>e= .returned (.tuple #[.agg #[.int .i64 0,.slice none 0 0],.int .i64 r])∧Below w.heap.size w w':=by
 obtain⟨z,l⟩:=m
 obtain⟨vs,rfl,hS⟩:=h
 obtain⟨a,cap,rfl⟩:=hS.sl
 have HM:Hid (Mach w (.agg #[.int .i64 z,.slice a l.length cap]) (z,l)):=⟨_,rfl,hS⟩
 have HK:Hid (okM (z,l)):=hok;have HR:Hid (faultM (z,l)=r):=hr;clear hS hok hr;simp only;have hne:(r !=0)=true:=by simpa using h0
 generalize l.length=n at *;go_enter Tryz.func32,Tryz.ntmps32;go_wp2_with (first
   | (go_at_call 45;(with_reducible refine(jjal _ (z,l) _ (HM.out.later (B:=w.heap.size) (by go_grown) (Nat.le_refl _)) HK.out _ HR.out).mono ?_);rintro e w1 ⟨rfl,hb⟩;obtain⟨s1,k0,k1,hb1⟩:=boxed2 hb (by simp);have HB1:Hid (Below w.heap.size w w1):=hb1;have e0:=k1.cell 0 (v:= .int .i64 0) rfl;have e1:=k1.cell 1 (v:= .slice none 0 0) rfl;have f0:=k1.fz 0;have f1:=k1.fz 1;clear hb hb1 k0 k1))
 exact bodyPost_ret (v:= .tuple #[.agg #[.int .i64 0,.slice none 0 0],.int .i64 r]) (by simp[results,Tryz.results32,go_sem, *]) rfl ⟨rfl,by (have h:=HB1.out);go_grown⟩
theorem mach_none (w:World):Mach w (.agg #[.int .i64 0,.slice none 0 0]) (0,[]):=⟨_,rfl,[],.inl ⟨rfl,rfl⟩,rfl,by simp⟩
theorem jjeq (v:Value)(m:Mc)(w:World)(h:Mach w v m)(hok:okM m)(g:Nat)(lb:Array Value)(f:List Ar→List Ar)(eg:∀ ar W,(callFunc g ar).run Tryz.prog W= .ok (.enter g ar) W)(hp:PutAt g lb f w)(r:Int)(hr:faultM m=r):
  Calls Tryz.prog 32 #[v,.func (.func g) #[] lb] w fun e w'=>∃ v',e= .returned (.tuple #[v',.int .i64 r])∧MachFrom w.heap.size w' v' (resM r (mapM f m))∧Below w.heap.size w w':=by
 by_cases h0:r=0
 ·subst h0
  exact arranged_ok v m w h hok g lb f eg hp hr
 ·refine (arranged_bad v m w h hok g lb r hr h0).mono ?_
  rintro e w' ⟨he,hb⟩
  refine⟨_,he,?_,hb⟩
  rw[resM,if_neg h0];exact fun w'' _=>mach_none w''
theorem sorted_any (v:Value)(m:Mc)(w:World)(h:Mach w v m)(hok:okM m)(r:Int)(hr:faultM m=r):
  Calls Tryz.prog 48 #[v] w fun e w'=>∃ v',e= .returned (.tuple #[v',.int .i64 r])∧MachFrom w.heap.size w' v' (resM r (mapM (sortS false) m))∧Below w.heap.size w w':=by
 obtain⟨z,l⟩:=m
 obtain⟨vs,rfl,hS⟩:=h
 obtain⟨a,cap,rfl⟩:=hS.sl
 have HM:Hid (Mach w (.agg #[.int .i64 z,.slice a l.length cap]) (z,l)):=⟨_,rfl,hS⟩
 have HK:Hid (okM (z,l)):=hok;have HR:Hid (faultM (z,l)=r):=hr;clear hS hok hr;simp only;generalize l.length=n at *;have eg:∀ args w,(callFunc 77 args).run Tryz.prog w= .ok (.enter 77 args) w:=enters_of Tryz.func77 (by kernel_rfl) rfl;go_enter Tryz.func48,Tryz.ntmps48;go_wp2
 have k0:Blk ((w.alloc (.cells #[.int .i64 z,.slice a n cap] 24)).alloc (.cells #[.int .i64 0,.slice none 0 0] 24)).drew w.heap.size #[.int .i64 z,.slice a n cap] 24:=(Blk.made w _ _).alloc _;have HS:HeldN w.heap.size z (.slice a n cap) ((w.alloc (.cells #[.int .i64 z,.slice a n cap] 24)).alloc (.cells #[.int .i64 0,.slice none 0 0] 24)).drew:=⟨k0.cell 0 rfl,k0.cell 1 rfl⟩
 refine jjaf (HeldN w.heap.size z (.slice a n cap)) 1000 (by kernel_rfl) ?_
 refine jjaa (v:=?v0_1) aZ0 ?y0_1 HS ?r0_1
 case y0_1=>intro wx hx;obtain⟨h1,h2⟩:=hx;go_simp;try (with_reducible rfl)
 simp only[Act.put,sA,sB,sC];refine jjaa (v:=?v1_2) aZ1 ?y1_2 HS ?r1_2
 case y1_2=>intro wx hx;obtain⟨h1,h2⟩:=hx;go_simp;try (with_reducible rfl)
 simp only[Act.put,sA,sB,sC];refine jjab aZ2 (fun K hK=>?_)
 go_simp;refine(jjep false _ _ _ ⟨rfl,rfl⟩).mono ?_
 rintro e w1 ⟨fv,rfl,⟨F,Ky,rfl,hF,hKy,hcF⟩,hb⟩
 obtain⟨s1,b0,b1,hb1⟩:=boxed2 (jjbr hb) (by simp[World.drew])
 have HS1:HeldN w.heap.size z (.slice a n cap) w1:=⟨b0.cell 0 rfl,b0.cell 1 rfl⟩
 refine hK _ _ (.inr HS1) ?_
 try simp only[Act.put,sA,sB,sC]
 refine jjab aZ3 (fun K hK=>?_)
 go_simp;refine(jjeq _ (z,l) _ (HM.out.later hb1 (Nat.le_refl _)) HK.out _ _ (sortS false) eg (put_sort false Ky F w1 hKy hF hcF) r HR.out).mono ?_
 rintro e w2 ⟨v2,rfl,hm2,hb2⟩
 obtain⟨a2,c2,rfl⟩:=hm2.sl
 generalize hMe:resM r (mapM (sortS false) (z,l))=M at *;have HMe:Hid (resM r (mapM (sortS false) (z,l))=M):=hMe;clear hMe;have b02:=b0.below hb2 b0.lt;have b12:=b1.below hb2 b1.lt;have HS2:HeldN w.heap.size z (.slice a n cap) w2:=⟨b02.cell 0 rfl,b02.cell 1 rfl⟩
 have HB2:Hid (Below w.heap.size w w2):=hb1.trans (hb2.mono hb1.size);have HM2:Hid (MachFrom w.heap.size ((w2.setCell ⟨w.heap.size+1,0,none⟩ (.int .i64 M.1)).setCell ⟨w.heap.size+1,1,none⟩ (.slice a2 M.2.length c2)) (.agg #[.int .i64 M.1,.slice a2 M.2.length c2]) M):=((hm2.set (by show w.heap.size+1<_;omega) _).set (by show w.heap.size+1<_;omega) _).mono (by omega)
 have e0:=b12.cell 0 (v:= .int .i64 0) rfl;have e1:=b12.cell 1 (v:= .slice none 0 0) rfl;have f0:=b12.fz 0;have f1:=b12.fz 1;refine hK _ _ (.inr HS2) ?_
 try simp only[Act.put,sA,sB,sC]
 refine jjaa (v:=?v4_3) aZ4 ?y4_3 HS2 ?r4_3
 case y4_3=>intro wx hx;obtain⟨h1,h2⟩:=hx;go_simp;try (with_reducible rfl)
 simp only[Act.put,sA,sB,sC];refine jjaa (v:=?v5_4) aZ5 ?y5_4 HS2 ?r5_4
 case y5_4=>intro wx hx;obtain⟨h1,h2⟩:=hx;go_simp;try (with_reducible rfl)
 simp only[Act.put,sA,sB,sC];refine jjab aZ6 (fun K hK=>?_)
 go_simp;have b03:=(b02.setO (⟨w.heap.size+1,0,none⟩:Addr) (.int .i64 M.1) (by show w.heap.size≠w.heap.size+1;omega)).setO (⟨w.heap.size+1,1,none⟩:Addr) (.slice a2 M.2.length c2) (by show w.heap.size≠w.heap.size+1;omega);have HS3:HeldN w.heap.size z (.slice a n cap) _:=⟨b03.cell 0 rfl,b03.cell 1 rfl⟩
 refine hK _ _ (.inr HS3) ?_
 try simp only[Act.put,sA,sB,sC]
 refine jjaa (v:=?v7_5) aZ7 ?y7_5 HS3 ?r7_5
 case y7_5=>intro wx hx;obtain⟨h1,h2⟩:=hx;go_simp;try (with_reducible rfl)
 simp only[Act.put,sA,sB,sC];refine jjad (by kernel_rfl) (NoPanic.normal ?_)
 clear b0 b1 b02 b03 HS HS1 HS2 HS3 hm2 hb hb1 hb2 k0;have b12':=(b12.set 0 (.int .i64 M.1)).set 1 (.slice a2 M.2.length c2);have x0:=b12'.cell 0 (v:= .int .i64 M.1) rfl;have x1:=b12'.cell 1 (v:= .slice a2 M.2.length c2) rfl;clear b12 b12' e0 e1 f0 f1
 have HB3:Hid (Below w.heap.size w ((w2.setCell ⟨w.heap.size+1,0,none⟩ (.int .i64 M.1)).setCell ⟨w.heap.size+1,1,none⟩ (.slice a2 M.2.length c2))):=(HB2.out.setCell (by show _≤w.heap.size+1;omega) _).setCell (by show _≤w.heap.size+1;omega) _;generalize (w2.setCell ⟨w.heap.size+1,0,none⟩ (.int .i64 M.1)).setCell ⟨w.heap.size+1,1,none⟩ (.slice a2 M.2.length c2)=w3 at *;go_wp2
 exact bodyPost_ret (v:= .tuple #[.agg #[.int .i64 M.1,.slice a2 M.2.length c2],.int .i64 r]) (by simp[results,Tryz.results48,go_sem, *]) rfl ⟨_,rfl,by rw[HMe.out];exact HM2.out,HB3.out⟩
theorem byOut_any (v:Value)(m:Mc)(w:World)(h:Mach w v m)(hok:okM m)(r:Int)(hr:faultM m=r):
  Calls Tryz.prog 14 #[v] w fun e w'=>∃ v',e= .returned (.tuple #[v',.int .i64 r])∧MachFrom w.heap.size w' v' (resM r (mapM (sortS true) m))∧Below w.heap.size w w':=by
 obtain⟨z,l⟩:=m
 obtain⟨vs,rfl,hS⟩:=h
 obtain⟨a,cap,rfl⟩:=hS.sl
 have HM:Hid (Mach w (.agg #[.int .i64 z,.slice a l.length cap]) (z,l)):=⟨_,rfl,hS⟩
 have HK:Hid (okM (z,l)):=hok;have HR:Hid (faultM (z,l)=r):=hr;clear hS hok hr;simp only;generalize l.length=n at *;have eg:∀ args w,(callFunc 77 args).run Tryz.prog w= .ok (.enter 77 args) w:=enters_of Tryz.func77 (by kernel_rfl) rfl;go_enter Tryz.func14,Tryz.ntmps14;go_wp2
 have k0:Blk ((w.alloc (.cells #[.int .i64 z,.slice a n cap] 24)).alloc (.cells #[.int .i64 0,.slice none 0 0] 24)).drew w.heap.size #[.int .i64 z,.slice a n cap] 24:=(Blk.made w _ _).alloc _;have HS:HeldN w.heap.size z (.slice a n cap) ((w.alloc (.cells #[.int .i64 z,.slice a n cap] 24)).alloc (.cells #[.int .i64 0,.slice none 0 0] 24)).drew:=⟨k0.cell 0 rfl,k0.cell 1 rfl⟩
 refine jjaf (HeldN w.heap.size z (.slice a n cap)) 1000 (by kernel_rfl) ?_
 refine jjaa (v:=?v0_6) aZ0 ?y0_6 HS ?r0_6
 case y0_6=>intro wx hx;obtain⟨h1,h2⟩:=hx;go_simp;try (with_reducible rfl)
 simp only[Act.put,sA,sB,sC];refine jjaa (v:=?v1_7) aZ1 ?y1_7 HS ?r1_7
 case y1_7=>intro wx hx;obtain⟨h1,h2⟩:=hx;go_simp;try (with_reducible rfl)
 simp only[Act.put,sA,sB,sC];refine jjab aZ2 (fun K hK=>?_)
 go_simp;refine(jjep true _ _ _ ⟨rfl,rfl⟩).mono ?_
 rintro e w1 ⟨fv,rfl,⟨F,Ky,rfl,hF,hKy,hcF⟩,hb⟩
 obtain⟨s1,b0,b1,hb1⟩:=boxed2 (jjbr hb) (by simp[World.drew])
 have HS1:HeldN w.heap.size z (.slice a n cap) w1:=⟨b0.cell 0 rfl,b0.cell 1 rfl⟩
 refine hK _ _ (.inr HS1) ?_
 try simp only[Act.put,sA,sB,sC]
 refine jjab aZ3 (fun K hK=>?_)
 go_simp;refine(jjeq _ (z,l) _ (HM.out.later hb1 (Nat.le_refl _)) HK.out _ _ (sortS true) eg (put_sort true Ky F w1 hKy hF hcF) r HR.out).mono ?_
 rintro e w2 ⟨v2,rfl,hm2,hb2⟩
 obtain⟨a2,c2,rfl⟩:=hm2.sl
 generalize hMe:resM r (mapM (sortS true) (z,l))=M at *;have HMe:Hid (resM r (mapM (sortS true) (z,l))=M):=hMe;clear hMe;have b02:=b0.below hb2 b0.lt;have b12:=b1.below hb2 b1.lt;have HS2:HeldN w.heap.size z (.slice a n cap) w2:=⟨b02.cell 0 rfl,b02.cell 1 rfl⟩
 have HB2:Hid (Below w.heap.size w w2):=hb1.trans (hb2.mono hb1.size);have HM2:Hid (MachFrom w.heap.size ((w2.setCell ⟨w.heap.size+1,0,none⟩ (.int .i64 M.1)).setCell ⟨w.heap.size+1,1,none⟩ (.slice a2 M.2.length c2)) (.agg #[.int .i64 M.1,.slice a2 M.2.length c2]) M):=((hm2.set (by show w.heap.size+1<_;omega) _).set (by show w.heap.size+1<_;omega) _).mono (by omega)
 have e0:=b12.cell 0 (v:= .int .i64 0) rfl;have e1:=b12.cell 1 (v:= .slice none 0 0) rfl;have f0:=b12.fz 0;have f1:=b12.fz 1;refine hK _ _ (.inr HS2) ?_
 try simp only[Act.put,sA,sB,sC]
 refine jjaa (v:=?v4_8) aZ4 ?y4_8 HS2 ?r4_8
 case y4_8=>intro wx hx;obtain⟨h1,h2⟩:=hx;go_simp;try (with_reducible rfl)
 simp only[Act.put,sA,sB,sC];refine jjaa (v:=?v5_9) aZ5 ?y5_9 HS2 ?r5_9
 case y5_9=>intro wx hx;obtain⟨h1,h2⟩:=hx;go_simp;try (with_reducible rfl)
 simp only[Act.put,sA,sB,sC];refine jjab aZ6 (fun K hK=>?_)
 go_simp;have b03:=(b02.setO (⟨w.heap.size+1,0,none⟩:Addr) (.int .i64 M.1) (by show w.heap.size≠w.heap.size+1;omega)).setO (⟨w.heap.size+1,1,none⟩:Addr) (.slice a2 M.2.length c2) (by show w.heap.size≠w.heap.size+1;omega);have HS3:HeldN w.heap.size z (.slice a n cap) _:=⟨b03.cell 0 rfl,b03.cell 1 rfl⟩
 refine hK _ _ (.inr HS3) ?_
 try simp only[Act.put,sA,sB,sC]
 refine jjaa (v:=?v7_10) aZ7 ?y7_10 HS3 ?r7_10
 case y7_10=>intro wx hx;obtain⟨h1,h2⟩:=hx;go_simp;try (with_reducible rfl)
 simp only[Act.put,sA,sB,sC];refine jjad (by kernel_rfl) (NoPanic.normal ?_)
 clear b0 b1 b02 b03 HS HS1 HS2 HS3 hm2 hb hb1 hb2 k0;have b12':=(b12.set 0 (.int .i64 M.1)).set 1 (.slice a2 M.2.length c2);have x0:=b12'.cell 0 (v:= .int .i64 M.1) rfl;have x1:=b12'.cell 1 (v:= .slice a2 M.2.length c2) rfl;clear b12 b12' e0 e1 f0 f1
 have HB3:Hid (Below w.heap.size w ((w2.setCell ⟨w.heap.size+1,0,none⟩ (.int .i64 M.1)).setCell ⟨w.heap.size+1,1,none⟩ (.slice a2 M.2.length c2))):=(HB2.out.setCell (by show _≤w.heap.size+1;omega) _).setCell (by show _≤w.heap.size+1;omega) _;generalize (w2.setCell ⟨w.heap.size+1,0,none⟩ (.int .i64 M.1)).setCell ⟨w.heap.size+1,1,none⟩ (.slice a2 M.2.length c2)=w3 at *;go_wp2
 exact bodyPost_ret (v:= .tuple #[.agg #[.int .i64 M.1,.slice a2 M.2.length c2],.int .i64 r]) (by simp[results,Tryz.results14,go_sem, *]) rfl ⟨_,rfl,by rw[HMe.out];exact HM2.out,HB3.out⟩
end Go.Proofs.YtppkiejhhmahcaaGreatDoor.Wt
