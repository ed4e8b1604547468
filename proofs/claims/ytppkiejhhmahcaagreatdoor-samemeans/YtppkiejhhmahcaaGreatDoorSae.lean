/- Facts, joined. -/
import Derived.Test.YtppkiejhhmahcaaGreatDoorSad
import Derived.RegionTactic
import Derived.Deep.MidRow
set_option linter.unusedSimpArgs false
set_option linter.unusedVariables false
set_option maxHeartbeats 2000000
set_option maxRecDepth 100000
namespace Go.Proofs.YtppkiejhhmahcaaGreatDoor.Wt
open ChangeShapes WideShapes ChangeAt RowKit Pl
def OwnArcs (w:World)(base:Nat)(v:Value)(ar:List Ar):Prop:=w.ownsRow base 56 4 v ar.length (ar.flatMap encA)
theorem OwnArcs.nil (w:World)(base:Nat):OwnArcs w base (.slice none 0 0) []:=World.ownsRow_nil _ _ _ _
theorem OwnArcs.arcs {w:World}{base:Nat}{v:Value}{ar:List Ar}(h:OwnArcs w base v ar):Arcs w v ar:=Row.ofOwn jjah h rfl
theorem OwnArcs.later {w w':World}{base:Nat}{v:Value}{ar:List Ar}(h:OwnArcs w base v ar)(hb:Below w.heap.size w w'):OwnArcs w' base v ar:=ownBelow h hb
theorem OwnArcs.sl {w:World}{base:Nat}{v:Value}{ar:List Ar}(h:OwnArcs w base v ar):∃ a c,v= .slice a ar.length c:=jjbx h
theorem hidP {p:Prop}(h:p):Hid p:=h
theorem jjeg {w:World}{a:Option Addr}{n c:Nat}{ar:List Ar}(h:Arcs w (.slice a n c) ar){j:Nat}(hj:j<ar.length):
  ∃ b off,a=some ⟨b,off,none⟩∧b<w.heap.size∧w.cell? ⟨b,off+j*4,none⟩=some (.int .i64 (el ar j).1)∧w.cell? ⟨b,off+j*4+1,none⟩=some (.int .i64 (el ar j).2.1)∧w.cell? ⟨b,off+j*4+2,none⟩=some (.int .i64 (el ar j).2.2.1)∧w.cell? ⟨b,off+j*4+3,none⟩=some (.int .i64 (el ar j).2.2.2):=by
 obtain⟨b,off,cap',hv,hb,hc⟩:=Row.plain h (fun x=>by simp[encA]) (by omega)
 injection hv with h1 _ _
 exact⟨b,off,h1,hb,hc j hj 0 _ rfl,hc j hj 1 _ rfl,hc j hj 2 _ rfl,hc j hj 3 _ rfl⟩
def RatRes (x:Mc)(ec:Int)(w:World)(e:Ending)(w':World):Prop:=∃ v,e= .returned (.tuple #[v,.int .i64 ec])∧Mach w' v x∧Below w.heap.size w w'
theorem jja5 (w:World):Mach w (.agg #[.int .i64 0,.slice none 0 0]) (0,[]):=⟨_,rfl,(OwnSts.nil w 0).sts⟩
theorem OwnSts.setM {w:World}{base:Nat}{v:Value}{l:List St}(h:OwnSts w base v l){b:Nat}{cs:Array Value}(hb:Blk w b cs 24)(o:Nat)(u:Value):OwnSts (w.setCell ⟨b,o,none⟩ u) base v l:=by
 obtain⟨vs,h1,h2,h3⟩:=h
 exact⟨vs,h1.kept (gSet w b o u) (.inr (Ne.symm (jjak h1 hb (by decide)))),h2,fun j hj=>⟨(h3 j hj).1,(h3 j hj).2.kept (gSet w b o u) (.inr (Ne.symm (jjak (h3 j hj).2 hb (by decide))))⟩⟩
theorem OwnSts.laterB {w w':World}{base:Nat}{v:Value}{l:List St}(h:OwnSts w base v l)(hb:Below w.heap.size w w'):OwnSts w' base v l:=h.kept (grownBelow hb)
theorem OwnArcs.mono {w:World}{base base':Nat}{v:Value}{ar:List Ar}(h:OwnArcs w base v ar)(hb:base'≤base):OwnArcs w base' v ar:=ownMono h hb
theorem arcs_join {w5:World}{B:Nat}{v1 v2:Value}{L1 L2:List Ar}(h1:OwnArcs w5 B v1 L1)(h2:Arcs w5 v2 L2)(hl:L1.length+L2.length≤100000)(hB:B≤w5.heap.size):
  ∃ a n c w6,(Builtin.append_ #[43,43] 43 #[v1,v2]).run Tryz.prog w5= .ok (.slice a n c) w6∧OwnArcs w6 B (.slice a n c) (L1++L2)∧w5.grownBy w6 v1.ownBlock∧Below B w5 w6:=by
 obtain⟨i1,hi1,hy0,hy1,hy2⟩:=info_parts infoArc
 obtain⟨v4,w4,r4,h4,g4,_⟩:=jjao (P:=Tryz.prog) jjah (by decide) jjch 43 43 B 56 i1 _ 32 Tryz.underlying43 hi1 hy0 hy1 hy2 rfl _ L1.length (L1.flatMap encA) h1 _ L2 h2 (by unfold maxLen;omega) (by omega) hB
 obtain⟨a,k,hv⟩:=jjbx h4
 subst hv;refine⟨a,_,k,w4,r4,?_,g4,(Below.refl _ _).grown g4 hB (fun k hk=>(h1.lt k hk).1)⟩
 unfold OwnArcs;rw[List.length_append,List.flatMap_append];exact h4
theorem OwnArcs.setS {w:World}{base:Nat}{v:Value}{ar:List Ar}(h:OwnArcs w base v ar){b:Nat}{cs:Array Value}(hb:Blk w b cs 45)(o:Nat)(u:Value):OwnArcs (w.setCell ⟨b,o,none⟩ u) base v ar:=
 World.ownsRow.kept h (gSet w b o u) (.inr (Ne.symm (jjak h hb (by decide))))
theorem jja7 {m:Mc}(hr:faultM m=0):∀ j,j<m.2.length→finB (el m.2 j).1=true∧(el m.2 j).2.length≤400∧∀ p ∈ (el m.2 j).2,0≤p.2.2.2∧p.2.2.2≤1000:=fun j hj=>by
 have h400:=(jjae (z:=m.1) (l:=m.2) hr).2;have h60:=(jjae (z:=m.1) (l:=m.2) hr).1;have h1:=jjbf hj;have h2:=jjed m.2 (j+1);have h3:=(jjag hr).2 (el m.2 j) (jjac hj);refine⟨stB_fin h3,by omega,fun p hp=>?_⟩
 simp only[stB,Bool.and_eq_true,List.all_eq_true]at h3;have h4:=h3.2 p hp;simp only[arcB,inB,Bool.and_eq_true,decide_eq_true_eq]at h4;omega
theorem word_own (v:Value)(l:List Int)(k:Nat)(w:World)(h:Nums w v l)(hwf:∀ n ∈ l,(Lit.int .i64 n).wf=true)(hk:k≤12):
  Calls Tryz.prog 16 #[v,.int .i64 (k:Int)] w fun e w'=>∃ v',e= .returned v'∧(Nums w' v' (wdL l k)∧∃ n,w'.ownsRow w.heap.size 3 1 v' n ((wdL l k).flatMap encI1))∧Below w.heap.size w w':=by
 obtain⟨i0,hi0,hz0,hz1,hz2⟩:=info_parts infoIntU
 obtain⟨a,cap,rfl,hc⟩:=h.get
 have HC:Hid (∀ j,j<l.length→∃ b off,a=some ⟨b,off,none⟩∧b<w.heap.size∧w.cell? ⟨b,off+j,none⟩=some (.int .i64 (el l j))):=hc;have HWF:=hidP hwf;clear h hc hwf;generalize hL:l.length=L at *;have HL:=hidP hL;clear hL;go_enter Tryz.func16,Tryz.ntmps16;go_wp2
 go_loopw [5,6] (fun s5 i wr=>∃ (j:Nat) (vr:Value),j≤L∧j≤k∧vr=s5∧i= .int .i64 j∧Hid (wr.ownsRow w.heap.size 3 1 vr j ((wdL l j).flatMap encI1))∧Hid (Below w.heap.size w wr)) (fun _ i _=>L-(intOf i).toNat)
 case atStart=>exact ⟨0,_,Nat.zero_le _,Nat.zero_le _,rfl,rfl,World.ownsRow_nil _ _ _ _,Below.refl _ _⟩
 case round=>
  obtain⟨j,vr,hj,hjk,rfl,rfl,hrw,hb⟩:=hrel
  by_cases hjL:j<L
  ·have hj1:(j:Int)<(L:Int):=by omega
   have hj0:(0:Int)≤(j:Int):=by omega
   by_cases hjk2:j<k
   ·have hj2:(j:Int)<(k:Int):=by omega
    obtain⟨b3,off3,rfl,hb3l,e0⟩:=HC.out j hjL
    have e0:=(hb.out.cell (p:=⟨b3,off3+j,none⟩) hb3l).trans e0;have HST:Hid (wdL l (j+1)=wdL l j++[1+pkR (el l j) 2]):=by
     show _=_;unfold wdL;rw[jja0 (by rw[HL.out];exact hjL),List.map_append];rfl
    have hwf:=HWF.out _ (jjac (l:=l) (j:=j) (by rw[HL.out];exact hjL));have hp:=jjc0 (el l j) 2 (by omega);obtain⟨r,hr⟩:∃ r,pkR (el l j) 2=r:=⟨_,rfl⟩
    have HPK:Hid (∀ W,Calls Tryz.prog 31 #[.int .i64 (el l j),.int .i64 2] W fun e w'=>e= .returned (.int .i64 r)∧W=w'):=fun W=>(jja6 (el l j) 2 W hwf (by omega) (by omega) r hr).mono fun e w' ⟨h1,h2⟩=>⟨h1,by first | exact h2 | exact h2.symm⟩
    rw[hr]at HST hp;clear hr hwf;generalize el l j=x at *;have hw3:IntKind.i64.wrap (1+r)=1+r:=wrapI (by omega) (by omega);generalize wdL l j=tl at *;have HD:=hrw;clear hrw;have hbs:=hb.out.size;go_wp2_with (first
     | (go_at_call 31;(with_reducible refine(HPK.out _).mono ?_);rintro e w' ⟨rfl,rfl⟩)
     | (at_builtin;refine jjav jjbg (by decide) jjc6 rfl _ _ 36 rfl w.heap.size 3 i0 _ 8 Tryz.underlying36 hi0 hz0 hz1 hz2 rfl _ j (tl.flatMap encI1) rfl (HD.out.alloc _) _ [1+r] rfl (oneRow (enc:=encI1) wr (1+r) rfl 3) (by simp;unfold maxLen;omega) (by simp;omega) (by simp;omega) ?_;intro v4 w4 ho4 hg4;have HO4:=hidP ho4;have HB4:Hid (Below w.heap.size w w4):=(hb.out.alloc hbs _).grown hg4 (by simp;omega) (fun k hk=>(HD.out.lt k hk).1);clear ho4 hg4))
    go_roundw
    case rel=>exact ⟨j+1,_,by omega,by omega,rfl,by go_num,by rw[HST.out,List.flatMap_append];exact HO4.out,HB4⟩
    case measure=>simp [intOf];omega
   ·have hj2:¬ (j:Int)<(k:Int):=by omega
    obtain rfl:j=k:=by omega
    go_wp2;go_ret;exact⟨_,rfl,⟨Row.ofOwn jjbg hrw.out (by rw[wdL,List.length_map,List.length_take,HL.out];omega),_,hrw.out⟩,hb.out⟩
  ·have hj1:¬ (j:Int)<(L:Int):=by omega
   have HE:Hid (wdL l j=wdL l k):=by
    show _=_;unfold wdL;rw[List.take_of_length_le (by rw[HL.out];omega),List.take_of_length_le (by rw[HL.out];omega)]
   go_wp2;go_ret;exact⟨_,rfl,by rw[← HE.out];exact⟨Row.ofOwn jjbg hrw.out (by rw[wdL,List.length_map,List.length_take,HL.out];omega),_,hrw.out⟩,hb.out⟩
theorem word_any (v:Value)(l:List Int)(k:Nat)(w:World)(h:Nums w v l)(hwf:∀ n ∈ l,(Lit.int .i64 n).wf=true)(hk:k≤12):
 Calls Tryz.prog 16 #[v,.int .i64 (k:Int)] w fun e w'=>∃ v',e= .returned v'∧Nums w' v' (wdL l k)∧Below w.heap.size w w':=(word_own v l k w h hwf hk).mono fun e w' ⟨v',h1,h2,h3⟩=>⟨v',h1,h2.1,h3⟩
end Wt
namespace Pl
def swpW (l:List Ar)(i j:Nat):List Ar:=(l.set i (el l j)).set j (el l i)
theorem jjay (l:List Ar)(i j:Nat):(swpW l i j).length=l.length:=by simp[swpW]
theorem el_setW {l:List Ar}{q j:Nat}(hq:q<l.length)(x:Ar):el (l.set q x) j=if j=q then x else el l j:=by
 by_cases h:j=q
 ·subst h;rw[if_pos rfl,jjaj (by simpa using hq)];simp
 ·rw [if_neg h];simp[el,List.getElem?_set_ne (Ne.symm h)]
theorem el_swpW {l:List Ar}{i j:Nat}(hi:i<l.length)(hj:j<l.length)(k:Nat):el (swpW l i j) k=if k=j then el l i else if k=i then el l j else el l k:=by
 unfold swpW;rw[el_setW (by simpa using hj),el_setW hi]
theorem jjby {l:List Ar}{i j:Nat}(hi:i<l.length)(hj:j<l.length):(swpW l i j).Perm l:=by
 have h:=Array.swap_perm (xs:=l.toArray) (i:=i) (j:=j) (by simpa using hi) (by simpa using hj);rw[Array.perm_iff_toList_perm]at h;have e:(l.toArray.swap i j (by simpa using hi) (by simpa using hj)).toList=swpW l i j:=by
  unfold swpW;rw[jjaj hi,jjaj hj];simp[Array.swap]
 rw[e]at h;exact h
theorem jjcn {l:List Ar}{i j n:Nat}(hi:i<n)(hj:j<n):(swpW l i j).drop n=l.drop n:=by
 unfold swpW;rw[List.drop_set_of_lt (by omega),List.drop_set_of_lt (by omega)]
def HeapW (l:List Ar)(n:Nat):Prop:=∀ k,0<k→k<n→(el l ((k-1) / 2)).2.2.2≤(el l k).2.2.2
theorem HeapW.nil :HeapW [] 0:=fun _ _ h=>absurd h (Nat.not_lt_zero _)
theorem HeapW.root {l:List Ar}{n:Nat}(h:HeapW l n):∀ k,k<n→(el l 0).2.2.2≤(el l k).2.2.2:=by
  intro k;induction k using Nat.strongRecOn with
  | ind k ih=>
    intro hk;by_cases e:k=0
    · subst e;exact Int.le_refl _
    · have h1:=h k (by omega) hk
      have h2:=ih ((k-1) / 2) (by omega) (by omega);omega
def UpW (l:List Ar)(j:Nat):Prop:=∀ k,0<k→k<l.length→(k≠j→(el l ((k-1) / 2)).2.2.2≤(el l k).2.2.2)∧(0<j→(k-1) / 2=j→(el l ((j-1) / 2)).2.2.2≤(el l k).2.2.2)
theorem UpW.start {l:List Ar}(h:HeapW l l.length)(x:Ar):UpW (l++[x]) l.length:=by
 intro k h0 hk;have hk':k<l.length+1:=by simpa using hk
 constructor
 ·intro hne
  rw[jjbc (by omega),jjbc (by omega)];exact h k h0 (by omega)
 ·intro h1 h2;omega
theorem UpW.swap {l:List Ar}{j:Nat}(h:UpW l j)(h0:0<j)(hj:j<l.length)(hlt:(el l j).2.2.2<(el l ((j-1) / 2)).2.2.2):UpW (swpW l ((j-1) / 2) j) ((j-1) / 2):=by
 generalize hi:(j-1) / 2=i at *;have hij:i<j:=by omega
 intro k hk0 hk;rw[jjay]at hk;have hjj:=h j h0 hj;have hkk:=h k hk0 hk;have e:=fun p=>el_swpW (l:=l) (i:=i) (j:=j) (by omega) hj p
 constructor
 ·intro hki
  rw[e k,if_neg hki,e ((k-1) / 2)];by_cases c1:k=j
  ·subst c1
   rw[if_pos rfl,hi,if_neg (by omega),if_pos rfl];omega
  ·rw [if_neg c1]
   have h1:=hkk.1 c1;by_cases c2:(k-1) / 2=j
   ·rw [if_pos c2]
    have:=hkk.2 h0 c2;rw[hi]at this;exact this
   ·rw [if_neg c2]
    by_cases c3:(k-1) / 2=i
    ·rw [if_pos c3]
     rw[c3]at h1;omega
    ·rw [if_neg c3];exact h1
 ·intro hi0 hki
  have hpi:(i-1) / 2<i:=by omega
  rw[e ((i-1) / 2),if_neg (by omega),if_neg (by omega),e k];have h1:=(h i hi0 (by omega)).1 (by omega);by_cases c1:k=j
  ·rw [if_pos c1];exact h1
  ·rw [if_neg c1,if_neg (by omega)]
   have h2:=hkk.1 c1;rw[hki]at h2;omega
theorem UpW.top {l:List Ar}(h:UpW l 0):HeapW l l.length:=fun k h0 hk=>(h k h0 hk).1 (by omega)
theorem UpW.stop {l:List Ar}{j:Nat}(h:UpW l j)(hle:¬ (el l j).2.2.2<(el l ((j-1) / 2)).2.2.2):HeapW l l.length:=by
 intro k h0 hk;by_cases c:k=j
 ·subst c;omega
 ·exact (h k h0 hk).1 c
def DownW (l:List Ar)(i n:Nat):Prop:=∀ k,0<k→k<n→((k-1) / 2≠i→(el l ((k-1) / 2)).2.2.2≤(el l k).2.2.2)∧(0<i→(k-1) / 2=i→(el l ((i-1) / 2)).2.2.2≤(el l k).2.2.2)
theorem DownW.start {l:List Ar}{n:Nat}(h:HeapW l l.length)(hn:l.length=n+1):DownW (swpW l 0 n) 0 n:=by
 intro k h0 hk;have e:=fun p=>el_swpW (l:=l) (i:=0) (j:=n) (by omega) (by omega) p
 constructor
 ·intro hne
  rw[e,e k,if_neg (by omega),if_neg (by omega),if_neg (by omega),if_neg (by omega)];exact h k h0 (by omega)
 ·intro h1;omega
def LowW (l:List Ar)(i n c:Nat):Prop:=c<n∧0<c∧(c-1) / 2=i∧∀ k,0<k→k<n→(k-1) / 2=i→(el l c).2.2.2≤(el l k).2.2.2
theorem LowW.left {l:List Ar}{i n:Nat}(h1:2*i+1<n)(h2:2*i+1+1<n→¬ (el l (2*i+1+1)).2.2.2<(el l (2*i+1)).2.2.2):LowW l i n (2*i+1):=by
 refine⟨h1,by omega,by omega,fun k k0 hk hp=>?_⟩
 have:k=2*i+1∨k=2*i+1+1:=by omega
 rcases this with rfl | rfl
 ·exact Int.le_refl _
 ·have:=h2 hk;omega
theorem LowW.right {l:List Ar}{i n:Nat}(h1:2*i+1+1<n)(h2:(el l (2*i+1+1)).2.2.2<(el l (2*i+1)).2.2.2):LowW l i n (2*i+1+1):=by
 refine⟨h1,by omega,by omega,fun k k0 hk hp=>?_⟩
 have:k=2*i+1∨k=2*i+1+1:=by omega
 rcases this with rfl | rfl
 ·omega
 ·exact Int.le_refl _
theorem DownW.swap {l:List Ar}{i n c:Nat}(h:DownW l i n)(hn:n≤l.length)(hc:LowW l i n c)(hlt:(el l c).2.2.2<(el l i).2.2.2):DownW (swpW l i c) c n:=by
 obtain⟨hcn,hc0,hci,hmin⟩:=hc
 have hic:i<c:=by omega
 intro k hk0 hk;have e:=fun p=>el_swpW (l:=l) (i:=i) (j:=c) (by omega) (by omega) p
 constructor
 ·intro hkc
  rw[e ((k-1) / 2),if_neg hkc,e k];by_cases c3:(k-1) / 2=i
  ·rw [if_pos c3]
   by_cases c1:k=c
   ·rw [if_pos c1];omega
   ·rw [if_neg c1,if_neg (by omega)]
    exact hmin k hk0 hk c3
  ·rw [if_neg c3]
   have h1:=(h k hk0 hk).1 c3;by_cases c1:k=c
   ·subst c1;exact absurd hci c3
   ·rw [if_neg c1]
    by_cases c2:k=i
    ·subst c2
     rw[if_pos rfl];exact(h c hc0 hcn).2 hk0 hci
    ·rw [if_neg c2];exact h1
 ·intro _ hkc
  rw[hci,e i,if_neg (by omega),if_pos rfl,e k,if_neg (by omega),if_neg (by omega)];have h1:=(h k hk0 hk).1 (by omega);rw[hkc]at h1;exact h1
theorem DownW.leaf {l:List Ar}{i n:Nat}(h:DownW l i n)(hl:n≤2*i+1):HeapW l n:=fun k h0 hk=>(h k h0 hk).1 (by omega)
theorem DownW.stop {l:List Ar}{i n c:Nat}(h:DownW l i n)(hc:LowW l i n c)(hle:¬ (el l c).2.2.2<(el l i).2.2.2):HeapW l n:=by
 intro k h0 hk;by_cases e:(k-1) / 2=i
 ·have:=hc.2.2.2 k h0 hk e
  rw[e];omega
 ·exact (h k h0 hk).1 e
theorem popW_facts {l m:List Ar}{n:Nat}(h:HeapW l l.length)(hn:l.length=n+1)(hp:m.Perm (swpW l 0 n))(hd:m.drop n=(swpW l 0 n).drop n)(hm:HeapW m n):
  el m n=el l 0∧HeapW (m.take n) n∧(el l 0::m.take n).Perm l∧∀ y ∈ m.take n,(el l 0).2.2.2≤y.2.2.2:=by
 have hml:m.length=n+1:=by rw[hp.length_eq,jjay,hn]
 have h1:el m n=el l 0:=by
  have e1:el (m.drop n) 0=el m n:=by simp[el]
  have e2:el ((swpW l 0 n).drop n) 0=el (swpW l 0 n) n:=by simp[el]
  rw[← e1,hd,e2,el_swpW (by omega) (by omega),if_pos rfl]
 have h2:m=m.take n++[el l 0]:=by
  have:=jja0 (l:=m) (k:=n) (by omega);rw[List.take_of_length_le (by omega),h1]at this;exact this
 have h3:(el l 0::m.take n).Perm l:=by
  have h4:m.Perm l:=hp.trans (jjby (by omega) (by omega));rw[h2]at h4;exact(List.perm_append_singleton _ _).symm.trans h4
 refine⟨h1,?_,h3,fun y hy=>?_⟩
 ·intro k h0 hk
  rw[el_take (by omega),el_take hk];exact hm k h0 hk
 ·have:y ∈ l:=h3.mem_iff.1 (List.mem_cons_of_mem _ hy)
  obtain⟨k,hk,rfl⟩:=jja1 this
  exact h.root k hk
end Pl
namespace Wt
open ChangeShapes WideShapes ChangeAt RowKit Pl
theorem load_wait (B:Nat)(w:World){v:Value}(h:w.cell? ⟨B,0,none⟩=some v):(loadVar 229 ⟨B,0,none⟩).run Tryz.prog w= .ok v w:=by
 simp[loadVar,isAgg,underlying,Tryz.underlying229,h,Result.andThen]
theorem methW_push (B : Nat) (w : World) : Sem.run Tryz.prog (method 372 230 (.pointer (some ⟨B, 0, none⟩)) "Push") w = .ok (231, .pointer (some ⟨B, 0, none⟩)) w := by kernel_rfl
theorem methW_pop (B : Nat) (w : World) : Sem.run Tryz.prog (method 372 230 (.pointer (some ⟨B, 0, none⟩)) "Pop") w = .ok (230, .pointer (some ⟨B, 0, none⟩)) w := by kernel_rfl
theorem methW_len0 (B : Nat) (w : World) : Sem.run Tryz.prog (method 372 230 (.pointer (some ⟨B, 0, none⟩)) "Len") w = Sem.run Tryz.prog (do let v ← loadVar 229 ⟨B, 0, none⟩; pure (184, v)) w := by kernel_rfl
theorem methW_less0 (B : Nat) (w : World) : Sem.run Tryz.prog (method 372 230 (.pointer (some ⟨B, 0, none⟩)) "Less") w = Sem.run Tryz.prog (do let v ← loadVar 229 ⟨B, 0, none⟩; pure (228, v)) w := by kernel_rfl
theorem methW_swap0 (B : Nat) (w : World) : Sem.run Tryz.prog (method 372 230 (.pointer (some ⟨B, 0, none⟩)) "Swap") w = Sem.run Tryz.prog (do let v ← loadVar 229 ⟨B, 0, none⟩; pure (229, v)) w := by kernel_rfl
theorem methW_len {B : Nat} {w : World} {v : Value} (h : w.cell? ⟨B, 0, none⟩ = some v) : Sem.run Tryz.prog (method 372 230 (.pointer (some ⟨B, 0, none⟩)) "Len") w = .ok (184, v) w := by
 rw[methW_len0];simp[load_wait B w h,Sem.run_bind]
theorem methW_less {B : Nat} {w : World} {v : Value} (h : w.cell? ⟨B, 0, none⟩ = some v) : Sem.run Tryz.prog (method 372 230 (.pointer (some ⟨B, 0, none⟩)) "Less") w = .ok (228, v) w := by
 rw[methW_less0];simp[load_wait B w h,Sem.run_bind]
theorem methW_swap {B : Nat} {w : World} {v : Value} (h : w.cell? ⟨B, 0, none⟩ = some v) : Sem.run Tryz.prog (method 372 230 (.pointer (some ⟨B, 0, none⟩)) "Swap") w = .ok (229, v) w := by
 rw[methW_swap0];simp[load_wait B w h,Sem.run_bind]
def FourW (w:World)(b o:Nat)(a:Ar):Prop:=w.cell? ⟨b,o,none⟩=some (.int .i64 a.1)∧w.cell? ⟨b,o+1,none⟩=some (.int .i64 a.2.1)∧w.cell? ⟨b,o+2,none⟩=some (.int .i64 a.2.2.1)∧w.cell? ⟨b,o+3,none⟩=some (.int .i64 a.2.2.2)
theorem jjde {w:World}{base:Nat}{e:TypeId}{g n cap j:Nat}{ws:List Ar}(h:w.ownsRow base e 4 (.slice (some ⟨g,0,none⟩) n cap) n (ws.flatMap encA))(hj:j<ws.length):FourW w g (j*4) (el ws j):=by
 have hc:∀ i u,i<4→(encA (el ws j))[i]? =some u→w.cell? ⟨g,j*4+i,none⟩=some u:=fun i u hi hu=>by
  have:=h.cells (g:=g) rfl (j*4+i) u ((jjas jjah ws j hj i hi).trans hu);rw[Addr.add_lit,Nat.zero_add]at this;exact this
 exact⟨hc 0 _ (by omega) rfl,hc 1 _ (by omega) rfl,hc 2 _ (by omega) rfl,hc 3 _ (by omega) rfl⟩
theorem own_fzW {w:World}{base:Nat}{e:TypeId}{s g n cap:Nat}{ws:List Value}(h:w.ownsRow base e s (.slice (some ⟨g,0,none⟩) n cap) n ws)(j:Nat):w.frozen? ⟨g,j,none⟩=false:=by
 rcases h.2 with⟨hv,hn0⟩ | ⟨g',cap',cur,hv,hbg,hg,_⟩
 ·simp at hv
 ·simp only[Value.slice.injEq,Option.some.injEq,Addr.mk.injEq,and_true,true_and]at hv
  obtain⟨rfl,rfl⟩:=hv
  exact Blk.fz (t:=e) hg j
theorem own_someW {w:World}{base:Nat}{e:TypeId}{s:Nat}{v:Value}{n:Nat}{ws:List Value}(h:w.ownsRow base e s v n ws)(hn:0<n):∃ g cap,v= .slice (some ⟨g,0,none⟩) n cap∧g<w.heap.size∧n≤cap∧base≤g:=by
 rcases h.2 with⟨hv,hn0⟩ | ⟨g,cap,cur,rfl,hbg,hg,hnc,_⟩
 ·omega
 ·exact ⟨g,cap,rfl,Blk.lt (t:=e) hg,hnc,hbg⟩
theorem own_slW {w:World}{base:Nat}{e:TypeId}{s:Nat}{v:Value}{n:Nat}{ws:List Value}(h:w.ownsRow base e s v n ws):∃ a cap,v= .slice a n cap:=by
 rcases h.2 with⟨hv,hn0⟩ | ⟨g,cap,cur,rfl,_⟩
 ·subst hn0;exact⟨_,_,hv⟩
 ·exact ⟨_,_,rfl⟩
theorem own_thereW {w:World}{base:Nat}{e:TypeId}{g n cap j:Nat}{ws:List Ar}(h:w.ownsRow base e 4 (.slice (some ⟨g,0,none⟩) n cap) n (ws.flatMap encA))(hj:j<ws.length):w.there g (j*4) 4:=by
 obtain⟨h0,h1,h2,h3⟩:=jjde h hj
 intro i hi;refine⟨?_,own_fzW h _⟩
 have:i=0∨i=1∨i=2∨i=3:=by omega
 rcases this with rfl | rfl | rfl | rfl
 ·rw [Nat.add_zero,h0];rfl
 ·rw [h1];rfl
 ·rw [h2];rfl
 ·rw [h3];rfl
theorem set_wayL {xs:List Ar}{k:Nat}(hk:k<xs.length)(p:Ar):((((xs.flatMap encA).set (k*4) (.int .i64 p.1)).set (k*4+1) (.int .i64 p.2.1)).set (k*4+2) (.int .i64 p.2.2.1)).set (k*4+3) (.int .i64 p.2.2.2)=(xs.set k p).flatMap encA:=by
  induction xs generalizing k with
  | nil=>simp at hk
  | cons x xs ih=>
    cases k with
    | zero=>simp [encA]
    | succ k=>
      have h4:=ih (k:=k) (by simpa using hk);rw[List.set_cons_succ,List.flatMap_cons,List.flatMap_cons,← h4];have e:∀ (l:List Value) (i:Nat) (v:Value),(encA x++l).set ((k+1)*4+i) v=encA x++l.set (k*4+i) v:=fun l i v=>by
        rw[List.set_append_right _ _ (by rw[jjah];omega),jjah];congr 2
        omega
      have e0:=e (xs.flatMap encA) 0 (.int .i64 p.1);have e1:(encA x++List.flatMap encA xs).set ((k+1)*4) (Value.int IntKind.i64 p.1)=encA x++(List.flatMap encA xs).set (k*4) (Value.int IntKind.i64 p.1):=e0;rw[e1,e,e,e]
theorem own_setW {w:World}{base:Nat}{e:TypeId}{g n cap j:Nat}{ws:List Ar}(h:w.ownsRow base e 4 (.slice (some ⟨g,0,none⟩) n cap) n (ws.flatMap encA))(hj:j<ws.length)(x:Ar):
  (w.setCells g (j*4) (encA x)).ownsRow base e 4 (.slice (some ⟨g,0,none⟩) n cap) n ((ws.set j x).flatMap encA):=by
 have hlen:=h.1;rw[jjai jjah]at hlen;rcases h.2 with⟨hv,hn0⟩ | ⟨g',cap',cur,hv,hbg,hg,hnc,hcm,hcs,htake⟩
 ·simp at hv
 ·simp only[Value.slice.injEq,Option.some.injEq,Addr.mk.injEq,and_true,true_and]at hv
  obtain⟨rfl,rfl⟩:=hv
  have hB:Blk w g cur e:=hg;refine⟨by rw[jjai jjah,List.length_set];exact hlen,.inr ⟨g,cap,(((cur.setIfInBounds (j*4) (.int .i64 x.1)).setIfInBounds (j*4+1) (.int .i64 x.2.1)).setIfInBounds (j*4+2) (.int .i64 x.2.2.1)).setIfInBounds (j*4+3) (.int .i64 x.2.2.2),rfl,hbg,?_,hnc,hcm,by simpa using hcs,?_⟩⟩
  ·have:=(((hB.set (j*4) (.int .i64 x.1)).set (j*4+1) (.int .i64 x.2.1)).set (j*4+2) (.int .i64 x.2.2.1)).set (j*4+3) (.int .i64 x.2.2.2)
   exact this
  ·rw [Array.toList_setIfInBounds,Array.toList_setIfInBounds,Array.toList_setIfInBounds,Array.toList_setIfInBounds,List.take_set,List.take_set,List.take_set,List.take_set,htake]
   exact set_wayL hj x
theorem gSetW (w:World)(g o:Nat)(x:Ar):w.grownBy (w.setCells g o (encA x)) (some g):=
 gTrans (gTrans (gTrans (gSet w g o (.int .i64 x.1)) (gSet _ g (o+1) (.int .i64 x.2.1))) (gSet _ g (o+1+1) (.int .i64 x.2.2.1))) (gSet _ g (o+1+1+1) (.int .i64 x.2.2.2))
theorem wLen_any (a:Option Addr)(n cap:Nat)(w:World):
  Calls Tryz.prog 184 #[.slice a n cap] w fun e w'=>e= .returned (.int .i64 (n:Int))∧w'=w:=by
 go_enter Tryz.func184,Tryz.ntmps184;go_wp2;go_ret;exact⟨rfl,rfl⟩
theorem wLess_any (g n cap:Nat)(w:World)(x y:Int)(i j:Nat)(hi:i<n)(hj:j<n)(hn:n≤10000000)(ci:w.cell? ⟨g,i*4+3,none⟩=some (.int .i64 x))(cj:w.cell? ⟨g,j*4+3,none⟩=some (.int .i64 y)):
  Calls Tryz.prog 228 #[.slice (some ⟨g,0,none⟩) n cap,.int .i64 (i:Int),.int .i64 (j:Int)] w fun e w'=>e= .returned (.bool (decide (x<y)))∧∃ q,w'=w.drewN q:=by
 go_enter Tryz.func228,Tryz.ntmps228;go_wp2;go_quiet (fail);go_wp2;go_ret;exact⟨rfl,_,rfl⟩
theorem infoWay :(Tryz.prog.info? 232).map (fun i=>(i.zero,i.size,i.bytes))=some (some (.agg #[.int .i64 0,.int .i64 0,.int .i64 0,.int .i64 0]),4,32):=by kernel_rfl
theorem infoWaySize :(Tryz.prog.info? 232).map (·.size)=some 4:=by kernel_rfl
def HeldT (_:World):Prop:=True
theorem wSwap_any (g n cap:Nat)(w:World)(x y:Ar)(i j:Nat)(hi:i<n)(hj:j<n)(hn:n≤10000000)(ci:FourW w g (i*4) x)(cj:FourW w g (j*4) y)(fi:w.there g (i*4) 4)(fj:w.there g (j*4) 4):
  Calls Tryz.prog 229 #[.slice (some ⟨g,0,none⟩) n cap,.int .i64 (i:Int),.int .i64 (j:Int)] w fun e w'=>e= .returned (.tuple #[])∧w'=(w.drew.setCells g (i*4) (encA y)).setCells g (j*4) (encA x):=by
 have F1:Hid (w.drew.there g (i*4) 4):=fi;have F2:Hid ((w.drew.setCells g (i*4) (encA y)).there g (j*4) 4):=World.there_setCells (w:=w.drew) fj g (i*4) (encA y);obtain⟨W2,hW2⟩:∃ W2,W2=(w.drew.setCells g (i*4) (encA y)).setCells g (j*4) (encA x):=⟨_,rfl⟩
 have HW2:Hid (W2=(w.drew.setCells g (i*4) (encA y)).setCells g (j*4) (encA x)):=hW2;rw[← hW2];clear hW2;obtain⟨x0,x1,x2,x3⟩:=x
 obtain⟨y0,y1,y2,y3⟩:=y
 obtain⟨a0,a1,a2,a3⟩:=ci
 obtain⟨b0,b1,b2,b3⟩:=cj
 simp only at a0 a1 a2 a3 b0 b1 b2 b3;have k1:(0:Int)≤(i:Int):=by omega
 have k2:(i:Int)<(n:Int):=by omega
 have k3:(0:Int)≤(j:Int):=by omega
 have k4:(j:Int)<(n:Int):=by omega
 clear fi fj;have HS:HeldT w.drew:=trivial;go_enter Tryz.func229,Tryz.ntmps229;go_wp2;refine jjaf HeldT 15 (by kernel_rfl) ?_
 refine jjaa (v:=?v0_1) aZ0 ?y0_1 HS ?r0_1
 case y0_1=>intro wx hx;obtain h1:=hx;go_simp;try (with_reducible rfl)
 simp only[Act.put,sA,sB,sC];refine jjaa (v:=?v1_2) aZ1 ?y1_2 HS ?r1_2
 case y1_2=>intro wx hx;obtain h1:=hx;go_simp;try (with_reducible rfl)
 simp only[Act.put,sA,sB,sC];refine jjaa (v:=?v2_3) aZ2 ?y2_3 HS ?r2_3
 case y2_3=>intro wx hx;obtain h1:=hx;go_simp;try (with_reducible rfl)
 simp only[Act.put,sA,sB,sC];refine jjaa (v:=?v3_4) aZ3 ?y3_4 HS ?r3_4
 case y3_4=>intro wx hx;obtain h1:=hx;go_simp;try (with_reducible rfl)
 simp only[Act.put,sA,sB,sC];refine jjaa (v:=?v4_5) aZ4 ?y4_5 HS ?r4_5
 case y4_5=>intro wx hx;obtain h1:=hx;go_simp;try (with_reducible rfl)
 simp only[Act.put,sA,sB,sC];refine jjaa (v:=?v5_6) aZ5 ?y5_6 HS ?r5_6
 case y5_6=>intro wx hx;obtain h1:=hx;go_simp;try (with_reducible rfl)
 simp only[Act.put,sA,sB,sC];refine jjaa (v:=?v6_7) aZ6 ?y6_7 HS ?r6_7
 case y6_7=>intro wx hx;obtain h1:=hx;go_simp;try (with_reducible rfl)
 simp only[Act.put,sA,sB,sC];refine jjaa (v:=?v8_8) aZ8 ?y8_8 HS ?r8_8
 case y8_8=>intro wx hx;obtain h1:=hx;go_simp;try (with_reducible rfl)
 simp only[Act.put,sA,sB,sC];refine jjaa (v:=?v9_9) aZ9 ?y9_9 HS ?r9_9
 case y9_9=>intro wx hx;obtain h1:=hx;go_simp;try (with_reducible rfl)
 simp only[Act.put,sA,sB,sC];refine jjaa (v:=?v10_10) aZ10 ?y10_10 HS ?r10_10
 case y10_10=>intro wx hx;obtain h1:=hx;go_simp;try (with_reducible rfl)
 simp only[Act.put,sA,sB,sC];refine jjbp (rs:=[7,11]) (by kernel_rfl) (by simp) (List.forall_mem_cons.2 ⟨⟨_,aZ7,rfl,fun K hK=>?_⟩,List.forall_mem_cons.2 ⟨⟨_,aZ11,rfl,fun K hK=>?_⟩,fun _ h=>absurd h (by simp)⟩⟩)
 ·go_simp
  refine hK _ _ (.inr trivial) ?_
  try simp only[Act.put,sA,sB,sC]
  refine jjab aZ11 (fun K hK=>?_)
  go_simp;refine hK _ _ (.inr trivial) ?_
  try simp only[Act.put,sA,sB,sC]
  refine jjaa (v:=?v12_11) aZ12 ?y12_11 HS ?r12_11
  case y12_11=>intro wx hx;obtain h1:=hx;go_simp;try (with_reducible rfl)
  simp only[Act.put,sA,sB,sC];refine jjab aZ13 (fun K hK=>?_)
  refine wp_store_mid 232 (.tmp 18) (.tmp 13) rfl g (i*4) #[.int .i64 y0,.int .i64 y1,.int .i64 y2,.int .i64 y3] rfl rfl F1.out infoWaySize (by simp[Value.oneCell']) ?_
  refine hK _ _ (.inr trivial) ?_
  try simp only[Act.put,sA,sB,sC]
  refine jjaa (v:=?v14_12) aZ14 ?y14_12 trivial ?r14_12
  case y14_12=>intro wx hx;obtain h1:=hx;go_simp;try (with_reducible rfl)
  simp only[Act.put,sA,sB,sC];refine jjab aZ15 (fun K hK=>?_)
  refine wp_store_mid 232 (.tmp 19) (.tmp 17) rfl g (j*4) #[.int .i64 x0,.int .i64 x1,.int .i64 x2,.int .i64 x3] rfl rfl F2.out infoWaySize (by simp[Value.oneCell']) ?_
  rw[show (World.setCells (World.setCells w.drew g (i*4) (#[Value.int .i64 y0,.int .i64 y1,.int .i64 y2,.int .i64 y3]:Array Value).toList) g (j*4) (#[Value.int .i64 x0,.int .i64 x1,.int .i64 x2,.int .i64 x3]:Array Value).toList)=W2 from HW2.out.symm];refine hK _ _ (.inl rfl) (jjad (by kernel_rfl) (NoPanic.normal ?_))
  clear a0 a1 a2 a3 b0 b1 b2 b3 F1 F2 HW2 hK;go_end0;exact⟨rfl,rfl⟩
 ·go_simp
  refine hK _ _ (.inr trivial) ?_
  try simp only[Act.put,sA,sB,sC]
  refine jjab aZ7 (fun K hK=>?_)
  go_simp;refine hK _ _ (.inr trivial) ?_
  try simp only[Act.put,sA,sB,sC]
  refine jjaa (v:=?v12_13) aZ12 ?y12_13 HS ?r12_13
  case y12_13=>intro wx hx;obtain h1:=hx;go_simp;try (with_reducible rfl)
  simp only[Act.put,sA,sB,sC];refine jjab aZ13 (fun K hK=>?_)
  refine wp_store_mid 232 (.tmp 18) (.tmp 13) rfl g (i*4) #[.int .i64 y0,.int .i64 y1,.int .i64 y2,.int .i64 y3] rfl rfl F1.out infoWaySize (by simp[Value.oneCell']) ?_
  refine hK _ _ (.inr trivial) ?_
  try simp only[Act.put,sA,sB,sC]
  refine jjaa (v:=?v14_14) aZ14 ?y14_14 trivial ?r14_14
  case y14_14=>intro wx hx;obtain h1:=hx;go_simp;try (with_reducible rfl)
  simp only[Act.put,sA,sB,sC];refine jjab aZ15 (fun K hK=>?_)
  refine wp_store_mid 232 (.tmp 19) (.tmp 17) rfl g (j*4) #[.int .i64 x0,.int .i64 x1,.int .i64 x2,.int .i64 x3] rfl rfl F2.out infoWaySize (by simp[Value.oneCell']) ?_
  rw[show (World.setCells (World.setCells w.drew g (i*4) (#[Value.int .i64 y0,.int .i64 y1,.int .i64 y2,.int .i64 y3]:Array Value).toList) g (j*4) (#[Value.int .i64 x0,.int .i64 x1,.int .i64 x2,.int .i64 x3]:Array Value).toList)=W2 from HW2.out.symm];refine hK _ _ (.inl rfl) (jjad (by kernel_rfl) (NoPanic.normal ?_))
  clear a0 a1 a2 a3 b0 b1 b2 b3 F1 F2 HW2 hK;go_end0;exact⟨rfl,rfl⟩
structure Turn2 (w w':World)(b:Nat)(r:Option Nat):Prop where
 os:w'.os=w.os
 tape:w'.tape=w.tape
 output:w'.output=w.output
 size:w.heap.size≤w'.heap.size
 block:∀ k,k<w.heap.size→k≠b→some k≠r→w'.heap[k]? =w.heap[k]?
theorem Turn2.grown {w w':World}{r:Option Nat}(h:w.grownBy w' r)(b:Nat):Turn2 w w' b r:=⟨h.os,h.tape,h.output,h.size,fun k hk _ hne=>h.block k hk hne⟩
theorem Turn2.set {w w':World}{b:Nat}{r:Option Nat}(h:Turn2 w w' b r)(o:Nat)(v:Value):Turn2 w (w'.setCell ⟨b,o,none⟩ v) b r:=
 ⟨h.os,h.tape,h.output,by simp[World.setCell];exact h.size,fun k hk hb hne=>(Below.heap_setCell w' _ _ k hb).trans (h.block k hk hb hne)⟩
theorem Turn2.trans {w w1 w2:World}{b:Nat}{r r1:Option Nat}(h:Turn2 w w1 b r)(k:Turn2 w1 w2 b r1)(hr:r1=r∨∃ c,r1=some c∧w.heap.size≤c):Turn2 w w2 b r:=by
 refine⟨k.os.trans h.os,k.tape.trans h.tape,k.output.trans h.output,Nat.le_trans h.size k.size,fun i hi hb hne=>?_⟩
 refine(k.block i (Nat.lt_of_lt_of_le hi h.size) hb ?_).trans (h.block i hi hb hne)
 rcases hr with rfl | ⟨c,rfl,hc⟩
 ·exact hne
 ·intro e;simp at e;omega
theorem Turn2.blk {w w':World}{b:Nat}{r:Option Nat}(h:Turn2 w w' b r){k:Nat}{cs:Array Value}{t:TypeId}(hk:Blk w k cs t)(hb:k≠b)(hr:some k≠r):Blk w' k cs t:=hk.keep (h.block k hk.lt hb hr)
theorem Turn2.below {w w':World}{b:Nat}{r:Option Nat}(h:Turn2 w w' b r){base:Nat}(hb:base≤b)(hr:∀ k,r=some k→base≤k)(hs:base≤w.heap.size):Below base w w':=
 ⟨h.os,h.tape,h.output,h.size,fun k hk=>h.block k (by omega) (by omega) (fun e=>by have:=hr k e.symm;omega)⟩
theorem belowDN (w:World)(q:Nat):Below w.heap.size w (w.drewN q):=⟨rfl,rfl,rfl,Nat.le_refl _,fun _ _=>rfl⟩
end Go.Proofs.YtppkiejhhmahcaaGreatDoor.Wt
