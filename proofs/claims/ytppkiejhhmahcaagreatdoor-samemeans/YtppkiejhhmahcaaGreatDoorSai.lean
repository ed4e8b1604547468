/- Facts, joined. -/
import Derived.Shelf.Abstract
import Derived.Test.YtppkiejhhmahcaaGreatDoorSah
import Derived.Laws.EntriesVeiled
set_option linter.unusedVariables false
set_option maxHeartbeats 2000000
set_option maxRecDepth 100000
namespace Go.Proofs.YtppkiejhhmahcaaGreatDoor.Wt
open ChangeShapes WideShapes ChangeAt RowKit Pl
theorem arcsOf_any (v:Value)(m:Mc)(w:World)(h:Mach w v m)(hok:okM m)(h60:m.2.length≤60)(q:Nat)(hq:arcN m.2=q):
  Calls Tryz.prog 88 #[v] w fun e w'=>e= .returned (.int .i64 q)∧Below w.heap.size w w':=by
 subst hq;obtain⟨z,l⟩:=m
 obtain⟨vs,rfl,hS⟩:=h
 obtain⟨a,cap,rfl,hc⟩:=hS.get
 have hA:=okM_arcs hok h60;clear hS hok;have HX:Hid (∀ k,arcN (l.take k)≤60*4398046511104):=hA;have HC:Hid (∀ j,j<l.length→∃ b off va,a=some ⟨b,off,none⟩∧b<w.heap.size∧w.cell? ⟨b,off+j*2,none⟩=some (.int .i64 (el l j).1)∧w.cell? ⟨b,off+j*2+1,none⟩=some va∧Arcs w va (el l j).2):=hc;clear hA hc;simp only at h60 ⊢;generalize hn:l.length=n at *;go_enter Tryz.func88,Tryz.ntmps88;go_wp2
 go_loopw [3,9] (fun s i wr=>∃ k:Nat,k≤n∧i= .int .i64 k∧s= .int .i64 (arcN (l.take k))∧Below w.heap.size w wr) (fun _ i _=>n-(intOf i).toNat)
 case atStart=>exact ⟨0,Nat.zero_le _,rfl,rfl,by go_grown⟩
 case round=>
  obtain⟨k,hk,rfl,rfl,hb⟩:=hrel
  by_cases hlt:k<n
  ·obtain ⟨b,off,va,rfl,hbl,g0,g1,gA⟩:=HC.out k hlt
   obtain⟨a2,cap2,rfl⟩:=gA.sl
   have g0:=(hb.cell (p:=⟨b,off+k*2,none⟩) hbl).trans g0;have g1:=(hb.cell (p:=⟨b,off+k*2+1,none⟩) hbl).trans g1;have h1:=HX.out k;have h2:=HX.out (k+1);have HE:Hid (arcN (l.take (k+1))=arcN (l.take k)+(el l k).2.length):=jjbf (by omega);rw[HE.out]at h2;clear gA;generalize arcN (l.take k)=s at *;generalize (el l k).2.length=q at *;generalize (el l k).1=f at *;go_wp2;go_roundw
   case rel=>exact ⟨k+1,by omega,by go_num,by rw[HE.out];go_num,hb.alloc hb.size _⟩
   case measure=>simp [intOf];omega
  ·go_wp2
   go_ret;have hke:k=n:=by omega
   refine⟨jja8 ?_,hb⟩
   rw[hke,← hn,List.take_length]
def AskS (g:Nat)(lb:Array Value)(p:St→Bool)(l:List St)(w:World):Prop:=
 (∀ ar W,(callFunc g ar).run Tryz.prog W= .ok (.enter g ar) W)∧
 ∀ j,j<l.length→∀ (W:World) (va:Value),Below w.heap.size w W→Arcs W va (el l j).2→Calls Tryz.prog g (#[.agg #[.int .i64 (el l j).1,va]]++lb) W fun e w'=>e= .returned (.bool (p (el l j)))∧Below W.heap.size W w'
theorem jjat (v:Value)(m:Mc)(w:World)(h:Mach w v m)(g:Nat)(lb:Array Value)(p:St→Bool)(hg:AskS g lb p m.2 w)(hl:m.2.length≤60)(r:Bool)(hr:m.2.all p=r):
  Calls Tryz.prog 100 #[v,.func (.func g) #[] lb] w fun e w'=>e= .returned (.bool r)∧Below w.heap.size w w':=by
 obtain⟨z,l⟩:=m
 obtain⟨vs,rfl,hS⟩:=h
 obtain⟨a,cap,rfl,hc⟩:=hS.get
 obtain⟨eg,hg⟩:=hg
 simp only at hg hl hr ⊢;have HC:Hid (∀ j,j<l.length→∃ b off va,a=some ⟨b,off,none⟩∧b<w.heap.size∧w.cell? ⟨b,off+j*2,none⟩=some (.int .i64 (el l j).1)∧w.cell? ⟨b,off+j*2+1,none⟩=some va∧Arcs w va (el l j).2):=hc
 have HG:Hid (∀ j,j<l.length→∀ (W:World) (va:Value),Below w.heap.size w W→Arcs W va (el l j).2→Calls Tryz.prog g (#[.agg #[.int .i64 (el l j).1,va]]++lb) W fun e w'=>e= .returned (.bool (p (el l j)))∧Below W.heap.size W w'):=hg;have HR:Hid (l.all p=r):=hr;clear hS hc hg hr;generalize hn:l.length=n at *;have HN:Hid (l.length=n):=hn;clear hn
 have hnot:∀ (x:Bool) (w:World),(Op.unary .not (.bool x)).run Tryz.prog w= .ok (.bool (!x)) w:=fun _ _=>rfl
 go_enter Tryz.func100,Tryz.ntmps100;go_wp2;go_loopw [10] (fun i wr=>∃ k:Nat,k≤n∧i= .int .i64 k∧Hid ((l.take k).all p=true)∧Below w.heap.size w wr) (fun i _=>n-(intOf i).toNat)
 case atStart=>exact ⟨0,Nat.zero_le _,rfl,rfl,by go_grown⟩
 case round=>
  obtain⟨k,hk,rfl,hok,hb⟩:=hrel
  by_cases hlt:k<n
  ·obtain ⟨b,off,va,rfl,hbl,g0,g1,gA⟩:=HC.out k hlt
   have g0:=(hb.cell (p:=⟨b,off+k*2,none⟩) hbl).trans g0;have g1:=(hb.cell (p:=⟨b,off+k*2+1,none⟩) hbl).trans g1;have GA:=gA.later hb (Nat.le_refl _);have GA2:Hid (Arcs (wr.alloc (.cells #[.int .i64 (el l k).1,va] 45)) va (el l k).2):=GA.later ((Below.refl _ _).alloc (Nat.le_refl _) _) (Nat.le_refl _)
   have HC1:=HG.out k hlt (wr.alloc (.cells #[.int .i64 (el l k).1,va] 45)) va (hb.alloc hb.size _) GA2.out;have HB2:Hid (Below w.heap.size w (wr.alloc (.cells #[.int .i64 (el l k).1,va] 45))):=hb.alloc hb.size _;obtain⟨a2,cap2,hva⟩:=GA.sl
   subst hva;rcases jjam (p (el l k))with hp | hp
   ·have HO:Hid ((l.take (k+1)).all p=true):=by show _=_;rw[jjds (by rw[HN.out];exact hlt),hok.out,hp];rfl
    rw[hp]at HC1
    have HCC:Hid (Calls Tryz.prog g (#[.agg #[.int .i64 (el l k).1,.slice a2 (el l k).2.length cap2]]++lb) (wr.alloc (.cells #[.int .i64 (el l k).1,.slice a2 (el l k).2.length cap2] 45)) fun e w'=>e= .returned (.bool true)∧Below (wr.alloc (.cells #[.int .i64 (el l k).1,.slice a2 (el l k).2.length cap2] 45)).heap.size (wr.alloc (.cells #[.int .i64 (el l k).1,.slice a2 (el l k).2.length cap2] 45)) w'):=HC1
    clear HC1 GA GA2 gA hp hok;generalize (el l k).2.length=q at *;generalize (el l k).1=f at *;go_wp2_with (go_at_fn g;refine HCC.out.mono ?_;rintro e w' ⟨rfl,hb'⟩;have HB3:Hid (Below w.heap.size w w'):=HB2.out.trans (hb'.mono HB2.out.size);clear hb');go_roundw
    case rel=>exact ⟨k+1,by omega,by go_num,HO,HB3.out⟩
    case measure=>simp [intOf];omega
   ·have HO:Hid (false=r):=by show _=_;rw[← HR.out];exact(jjc3 (by rw[HN.out];exact hlt) hp).symm
    rw[hp]at HC1
    have HCC:Hid (Calls Tryz.prog g (#[.agg #[.int .i64 (el l k).1,.slice a2 (el l k).2.length cap2]]++lb) (wr.alloc (.cells #[.int .i64 (el l k).1,.slice a2 (el l k).2.length cap2] 45)) fun e w'=>e= .returned (.bool false)∧Below (wr.alloc (.cells #[.int .i64 (el l k).1,.slice a2 (el l k).2.length cap2] 45)).heap.size (wr.alloc (.cells #[.int .i64 (el l k).1,.slice a2 (el l k).2.length cap2] 45)) w'):=HC1
    clear HC1 GA GA2 gA hp hok;generalize (el l k).2.length=q at *;generalize (el l k).1=f at *;go_wp2_with (go_at_fn g;refine HCC.out.mono ?_;rintro e w' ⟨rfl,hb'⟩;have HB3:Hid (Below w.heap.size w w'):=HB2.out.trans (hb'.mono HB2.out.size);clear hb');go_ret;exact⟨jjar HO.out,HB3.out⟩
  ·have hke:k=n:=by omega
   have HO:Hid (true=r):=by show _=_;rw[← HR.out];have h:=hok.out;rw[hke,← HN.out,List.take_length]at h;exact h.symm
   have hnl:¬ (k:Int)<(n:Int):=by omega
   clear hke hok hlt;go_wp2;go_ret;exact⟨jjar HO.out,hb⟩
def AskA (g:Nat)(lb:Array Value)(p:Ar→Bool)(w:World):Prop:=
 (∀ ar W,(callFunc g ar).run Tryz.prog W= .ok (.enter g ar) W)∧
 ∀ (a:Ar) (W:World),Below w.heap.size w W→Calls Tryz.prog g (#[.agg #[.int .i64 a.1,.int .i64 a.2.1,.int .i64 a.2.2.1,.int .i64 a.2.2.2]]++lb) W fun e w'=>e= .returned (.bool (p a))∧Below W.heap.size W w'
theorem AskA.later {g:Nat}{lb:Array Value}{p:Ar→Bool}{w w':World}(h:AskA g lb p w)(hb:Below w.heap.size w w'):AskA g lb p w':=⟨h.1,fun a W hW=>h.2 a W (hb.trans (hW.mono hb.size))⟩
theorem arcsAll_any (f:Int)(va:Value)(l:List Ar)(B:Nat)(w W:World)(g:Nat)(lb:Array Value)(p:Ar→Bool)(hg:AskA g lb p w)(hB:w.cell? ⟨B,0,none⟩=some (.func (.func g) #[] lb))(hW:Below w.heap.size w W)(hA:Arcs W va l)(hl:l.length≤4398046511104)(r:Bool)(hr:l.all p=r):
  Calls Tryz.prog 138 #[.agg #[.int .i64 f,va],.pointer (some ⟨B,0,none⟩)] W fun e w'=>e= .returned (.bool r)∧Below W.heap.size W w':=by
 obtain⟨a,cap,rfl,hc⟩:=hA.get
 obtain⟨eg,hg⟩:=hg
 have HC:Hid (∀ j,j<l.length→∃ b off,a=some ⟨b,off,none⟩∧b<W.heap.size∧W.cell? ⟨b,off+j*4,none⟩=some (.int .i64 (el l j).1)∧W.cell? ⟨b,off+j*4+1,none⟩=some (.int .i64 (el l j).2.1)∧W.cell? ⟨b,off+j*4+2,none⟩=some (.int .i64 (el l j).2.2.1)∧W.cell? ⟨b,off+j*4+3,none⟩=some (.int .i64 (el l j).2.2.2)):=hc
 have HG:Hid (∀ (a:Ar) (V:World),Below w.heap.size w V→Calls Tryz.prog g (#[.agg #[.int .i64 a.1,.int .i64 a.2.1,.int .i64 a.2.2.1,.int .i64 a.2.2.2]]++lb) V fun e w'=>e= .returned (.bool (p a))∧Below V.heap.size V w'):=hg;have HR:Hid (l.all p=r):=hr;have hBl:=World.block_lt_of_cell? _ _ hB;have hB1:W.cell? ⟨B,0,none⟩=some (.func (.func g) #[] lb):=(hW.cell (p:=⟨B,0,none⟩) hBl).trans hB
 have HW:Hid (Below w.heap.size w W):=hW;have hBW:B<W.heap.size:=World.block_lt_of_cell? _ _ hB1;clear hA hc hg hr hW hB;generalize hn:l.length=n at *;have HN:Hid (l.length=n):=hn;clear hn;have hnot:∀ (x:Bool) (w:World),(Op.unary .not (.bool x)).run Tryz.prog w= .ok (.bool (!x)) w:=fun _ _=>rfl
 go_enter Tryz.func138,Tryz.ntmps138;go_wp2;go_loopw [9] (fun i wr=>∃ k:Nat,k≤n∧i= .int .i64 k∧Hid ((l.take k).all p=true)∧Below W.heap.size W wr) (fun i _=>n-(intOf i).toNat)
 case atStart=>exact ⟨0,Nat.zero_le _,rfl,rfl,by go_grown⟩
 case round=>
  obtain⟨k,hk,rfl,hok,hb⟩:=hrel
  by_cases hlt:k<n
  ·obtain ⟨b,off,rfl,hbl,g0,g1,g2,g3⟩:=HC.out k hlt
   have g0:=(hb.cell (p:=⟨b,off+k*4,none⟩) hbl).trans g0;have g1:=(hb.cell (p:=⟨b,off+k*4+1,none⟩) hbl).trans g1;have g2:=(hb.cell (p:=⟨b,off+k*4+2,none⟩) hbl).trans g2;have g3:=(hb.cell (p:=⟨b,off+k*4+3,none⟩) hbl).trans g3;have g4:=(hb.cell (p:=⟨B,0,none⟩) hBW).trans hB1;have hBr:B<wr.heap.size:=Nat.lt_of_lt_of_le hBW hb.size
   have HB2:Hid (Below W.heap.size W (wr.alloc (.cells #[.int .i64 (el l k).1,.int .i64 (el l k).2.1,.int .i64 (el l k).2.2.1,.int .i64 (el l k).2.2.2] 56))):=hb.alloc hb.size _;have HC1:=HG.out (el l k) (wr.alloc (.cells #[.int .i64 (el l k).1,.int .i64 (el l k).2.1,.int .i64 (el l k).2.2.1,.int .i64 (el l k).2.2.2] 56)) (HW.out.trans (HB2.out.mono HW.out.size))
   rcases jjam (p (el l k))with hp | hp
   ·have HO:Hid ((l.take (k+1)).all p=true):=by show _=_;rw[jjds (by rw[HN.out];exact hlt),hok.out,hp];rfl
    rw[hp]at HC1
    have HCC:Hid (Calls Tryz.prog g (#[.agg #[.int .i64 (el l k).1,.int .i64 (el l k).2.1,.int .i64 (el l k).2.2.1,.int .i64 (el l k).2.2.2]]++lb) (wr.alloc (.cells #[.int .i64 (el l k).1,.int .i64 (el l k).2.1,.int .i64 (el l k).2.2.1,.int .i64 (el l k).2.2.2] 56)) fun e w'=>e= .returned (.bool true)∧Below (wr.alloc (.cells #[.int .i64 (el l k).1,.int .i64 (el l k).2.1,.int .i64 (el l k).2.2.1,.int .i64 (el l k).2.2.2] 56)).heap.size (wr.alloc (.cells #[.int .i64 (el l k).1,.int .i64 (el l k).2.1,.int .i64 (el l k).2.2.1,.int .i64 (el l k).2.2.2] 56)) w'):=HC1
    clear HC1 hp hok;generalize (el l k).1=x0 at *;generalize (el l k).2.1=x1 at *;generalize (el l k).2.2.1=x2 at *;generalize (el l k).2.2.2=x3 at *;go_wp2_with (go_at_fn g;refine HCC.out.mono ?_;rintro e w' ⟨rfl,hb'⟩;have HB3:Hid (Below W.heap.size W w'):=HB2.out.trans (hb'.mono HB2.out.size);clear hb');go_roundw
    case rel=>exact ⟨k+1,by omega,by go_num,HO,HB3.out⟩
    case measure=>simp [intOf];omega
   ·have HO:Hid (false=r):=by show _=_;rw[← HR.out];exact(jjc3 (by rw[HN.out];exact hlt) hp).symm
    rw[hp]at HC1
    have HCC:Hid (Calls Tryz.prog g (#[.agg #[.int .i64 (el l k).1,.int .i64 (el l k).2.1,.int .i64 (el l k).2.2.1,.int .i64 (el l k).2.2.2]]++lb) (wr.alloc (.cells #[.int .i64 (el l k).1,.int .i64 (el l k).2.1,.int .i64 (el l k).2.2.1,.int .i64 (el l k).2.2.2] 56)) fun e w'=>e= .returned (.bool false)∧Below (wr.alloc (.cells #[.int .i64 (el l k).1,.int .i64 (el l k).2.1,.int .i64 (el l k).2.2.1,.int .i64 (el l k).2.2.2] 56)).heap.size (wr.alloc (.cells #[.int .i64 (el l k).1,.int .i64 (el l k).2.1,.int .i64 (el l k).2.2.1,.int .i64 (el l k).2.2.2] 56)) w'):=HC1
    clear HC1 hp hok;generalize (el l k).1=x0 at *;generalize (el l k).2.1=x1 at *;generalize (el l k).2.2.1=x2 at *;generalize (el l k).2.2.2=x3 at *;go_wp2_with (go_at_fn g;refine HCC.out.mono ?_;rintro e w' ⟨rfl,hb'⟩;have HB3:Hid (Below W.heap.size W w'):=HB2.out.trans (hb'.mono HB2.out.size);clear hb');go_ret;exact⟨jjar HO.out,HB3.out⟩
  ·have hke:k=n:=by omega
   have HO:Hid (true=r):=by show _=_;rw[← HR.out];have h:=hok.out;rw[hke,← HN.out,List.take_length]at h;exact h.symm
   have hnl:¬ (k:Int)<(n:Int):=by omega
   clear hke hok hlt;go_wp2;go_ret;exact⟨jjar HO.out,hb⟩
theorem arcsAll_ask (B:Nat)(l:List St)(w:World)(g:Nat)(lb:Array Value)(p:Ar→Bool)(hg:AskA g lb p w)(hB:w.cell? ⟨B,0,none⟩=some (.func (.func g) #[] lb))(hl:∀ j,j<l.length→(el l j).2.length≤4398046511104):
  AskS 138 #[.pointer (some ⟨B,0,none⟩)] (fun s=>s.2.all p) l w:=
 ⟨enters_of Tryz.func138 (by kernel_rfl) rfl,fun j hj W va hW hA=>arcsAll_any _ va _ B w W g lb p hg hB hW hA (hl j hj) _ rfl⟩
theorem jjau (v:Value)(m:Mc)(w:World)(h:Mach w v m)(g:Nat)(lb:Array Value)(p:Ar→Bool)(hg:AskA g lb p w)(hok:okM m)(hl:m.2.length≤60)(r:Bool)(hr:m.2.all (fun s=>s.2.all p)=r):
  Calls Tryz.prog 97 #[v,.func (.func g) #[] lb] w fun e w'=>e= .returned (.bool r)∧Below w.heap.size w w':=by
 obtain⟨z,l⟩:=m
 obtain⟨vs,rfl,hS⟩:=h
 obtain⟨a,cap,rfl⟩:=hS.sl
 have HM:Hid (Mach w (.agg #[.int .i64 z,.slice a l.length cap]) (z,l)):=⟨_,rfl,hS⟩
 have HG:Hid (AskA g lb p w):=hg;have HL:Hid (∀ j,j<l.length→(el l j).2.length≤4398046511104):=fun j hj=>by have:=hok.2 j hj;simp only at this;omega
 have HR:Hid (l.all (fun s=>s.2.all p)=r):=hr;have H60:Hid (l.length≤60):=hl;clear hg hS hok hr hl;have hmf:∀ (fn:Fn) (first cap:Array Value) (w:World),(Instr.makeFunc fn first cap).run Tryz.prog w= .ok (.func fn first cap) w:=fun _ _ _ _=>rfl
 simp only;generalize hn:l.length=n at *;have HN:Hid (l.length=n):=hn;clear hn;have HB:Hid (Below w.heap.size w ((w.alloc (.cells #[.int .i64 z,.slice a n cap] 24)).alloc (.cells #[.func (.func g) #[] lb] 97))):=by show Below _ _ _;go_grown
 go_enter Tryz.func97,Tryz.ntmps97;go_wp2_with (first | (go_at_call 100;(with_reducible refine(jjat _ (z,l) _ (HM.out.later HB.out (Nat.le_refl _)) _ _ _ (arcsAll_ask _ l _ g lb p (HG.out.later HB.out) (by go_cell) (by rw[HN.out];exact HL.out)) (by show l.length≤60;rw[HN.out];exact H60.out) r HR.out).mono ?_);rintro e w' ⟨rfl,hb⟩));go_ret;exact⟨rfl,HB.out.trans (hb.mono HB.out.size)⟩
def Betw (w:World)(v:Value)(lo hi:Int):Prop:=∃ b0 b1,v= .func (.func 166) #[] #[.pointer (some ⟨b0,0,none⟩),.pointer (some ⟨b1,0,none⟩)]∧w.cell? ⟨b0,0,none⟩=some (.int .i64 lo)∧w.cell? ⟨b1,0,none⟩=some (.int .i64 hi)
theorem Betw.later {w w':World}{v:Value}{lo hi:Int}(h:Betw w v lo hi){B:Nat}(hb:Below B w w')(hB:w.heap.size≤B):Betw w' v lo hi:=by
 obtain⟨b0,b1,hv,h0,h1⟩:=h
 exact⟨b0,b1,hv,(hb.cell (Nat.lt_of_lt_of_le (World.block_lt_of_cell? _ _ h0) hB)).trans h0,(hb.cell (Nat.lt_of_lt_of_le (World.block_lt_of_cell? _ _ h1) hB)).trans h1⟩
theorem jjaq (n lo hi:Int)(b0 b1:Nat)(w:World)(h0:w.cell? ⟨b0,0,none⟩=some (.int .i64 lo))(h1:w.cell? ⟨b1,0,none⟩=some (.int .i64 hi))(r:Bool)(hr:inB n lo hi=r):
  Calls Tryz.prog 166 #[.int .i64 n,.pointer (some ⟨b0,0,none⟩),.pointer (some ⟨b1,0,none⟩)] w fun e w'=>e= .returned (.bool r)∧w=w':=by
 subst hr;unfold inB;go_enter Tryz.func166,Tryz.ntmps166;go_wp2
 all_goals
  go_ret;exact⟨jjar (by simp_all<;>intros<;>omega),by simp_all⟩
def VarB (w:World)(c:Nat)(lo hi:Int):Prop:=∃ v,w.cell? ⟨c,0,none⟩=some v∧Betw w v lo hi
theorem VarB.later {w w':World}{c:Nat}{lo hi:Int}(h:VarB w c lo hi){B:Nat}(hb:Below B w w')(hB:w.heap.size≤B):VarB w' c lo hi:=by
 obtain⟨v,h0,h1⟩:=h
 exact⟨v,(hb.cell (Nat.lt_of_lt_of_le (World.block_lt_of_cell? _ _ h0) hB)).trans h0,h1.later hb hB⟩
theorem mayEnd_any (f:Int)(va:Value)(hva:∃ a n c,va= .slice a n c)(c:Nat)(w:World)(hc:VarB w c 0 1000000000)(r:Bool)(hr:finB f=r):
  Calls Tryz.prog 137 #[.agg #[.int .i64 f,va],.pointer (some ⟨c,0,none⟩)] w fun e w'=>e= .returned (.bool r)∧Below w.heap.size w w':=by
 subst hr;obtain⟨a,n,cp,rfl⟩:=hva
 obtain⟨v,hv,b0,b1,rfl,h0,h1⟩:=hc
 have l0:=World.block_lt_of_cell? _ _ hv;have l1:=World.block_lt_of_cell? _ _ h0;have l2:=World.block_lt_of_cell? _ _ h1;simp only at l0 l1 l2;by_cases hx:f=1000000001
 ·subst hx
  go_enter Tryz.func137,Tryz.ntmps137;go_wp2;go_ret;exact⟨rfl,by go_grown⟩
 ·have hne:(f==1000000001)=false:=by simpa using hx
  have HE:Hid (inB f 0 1000000000=finB f):=by show _=_;simp[finB,hx]
  clear hx;go_enter Tryz.func137,Tryz.ntmps137;go_wp2_with (first | (go_at_call 166;(with_reducible refine(jjaq _ _ _ _ _ _ (by go_cell) (by go_cell) _ HE.out).mono ?_);rintro e w' ⟨rfl,rfl⟩));go_ret;exact⟨rfl,by go_grown⟩
theorem mayBe_any (x:Ar)(cl cc cs:Nat)(n:Int)(w:World)(hl:VarB w cl 0 1000)(hc:VarB w cc 0 1000000000)(hs:VarB w cs 0 n)(r:Bool)(hr:(inB x.1 0 1000&&inB x.2.1 0 1000&&inB x.2.2.1 0 1000000000&&inB x.2.2.2 0 n)=r):
  Calls Tryz.prog 136 #[.agg #[.int .i64 x.1,.int .i64 x.2.1,.int .i64 x.2.2.1,.int .i64 x.2.2.2],.pointer (some ⟨cl,0,none⟩),.pointer (some ⟨cc,0,none⟩),.pointer (some ⟨cs,0,none⟩)] w fun e w'=>e= .returned (.bool r)∧Below w.heap.size w w':=by
 subst hr;obtain⟨x0,x1,x2,x3⟩:=x
 simp only;obtain⟨vl,hl,bl0,bl1,rfl,hl0,hl1⟩:=hl
 obtain⟨vc,hc,bc0,bc1,rfl,hc0,hc1⟩:=hc
 obtain⟨vs,hs,bs0,bs1,rfl,hs0,hs1⟩:=hs
 have l0:=World.block_lt_of_cell? _ _ hl;have l1:=World.block_lt_of_cell? _ _ hl0;have l2:=World.block_lt_of_cell? _ _ hl1;have l3:=World.block_lt_of_cell? _ _ hc;have l4:=World.block_lt_of_cell? _ _ hc0;have l5:=World.block_lt_of_cell? _ _ hc1;have l6:=World.block_lt_of_cell? _ _ hs;have l7:=World.block_lt_of_cell? _ _ hs0;have l8:=World.block_lt_of_cell? _ _ hs1
 simp only at l0 l1 l2 l3 l4 l5 l6 l7 l8;generalize hr1:inB x0 0 1000=r1;generalize hr2:inB x1 0 1000=r2;generalize hr3:inB x2 0 1000000000=r3;generalize hr4:inB x3 0 n=r4;have H1:Hid (inB x0 0 1000=r1):=hr1;have H2:Hid (inB x1 0 1000=r2):=hr2;have H3:Hid (inB x2 0 1000000000=r3):=hr3;have H4:Hid (inB x3 0 n=r4):=hr4;clear hr1 hr2 hr3 hr4;cases r1
 ·go_enter Tryz.func136,Tryz.ntmps136
  go_wp2_with (first | (go_at_call 166;(with_reducible refine(jjaq _ _ _ _ _ _ (by go_cell) (by go_cell) _ H1.out).mono ?_);rintro e w' ⟨rfl,rfl⟩));go_ret;exact⟨rfl,by go_grown⟩
 cases r2
 ·go_enter Tryz.func136,Tryz.ntmps136
  go_wp2_with (first | (go_at_call 166;(with_reducible refine(jjaq _ _ _ _ _ _ (by go_cell) (by go_cell) _ H1.out).mono ?_);rintro e w' ⟨rfl,rfl⟩) | (go_at_call 166;(with_reducible refine(jjaq _ _ _ _ _ _ (by go_cell) (by go_cell) _ H2.out).mono ?_);rintro e w' ⟨rfl,rfl⟩));go_ret;exact⟨rfl,by go_grown⟩
 cases r3
 ·go_enter Tryz.func136,Tryz.ntmps136
  go_wp2_with (first | (go_at_call 166;(with_reducible refine(jjaq _ _ _ _ _ _ (by go_cell) (by go_cell) _ H1.out).mono ?_);rintro e w' ⟨rfl,rfl⟩) | (go_at_call 166;(with_reducible refine(jjaq _ _ _ _ _ _ (by go_cell) (by go_cell) _ H2.out).mono ?_);rintro e w' ⟨rfl,rfl⟩) | (go_at_call 166;(with_reducible refine(jjaq _ _ _ _ _ _ (by go_cell) (by go_cell) _ H3.out).mono ?_);rintro e w' ⟨rfl,rfl⟩))
  go_ret;exact⟨rfl,by go_grown⟩
 go_enter Tryz.func136,Tryz.ntmps136
 go_wp2_with (first | (go_at_call 166;(with_reducible refine(jjaq _ _ _ _ _ _ (by go_cell) (by go_cell) _ H1.out).mono ?_);rintro e w' ⟨rfl,rfl⟩) | (go_at_call 166;(with_reducible refine(jjaq _ _ _ _ _ _ (by go_cell) (by go_cell) _ H2.out).mono ?_);rintro e w' ⟨rfl,rfl⟩) | (go_at_call 166;(with_reducible refine(jjaq _ _ _ _ _ _ (by go_cell) (by go_cell) _ H3.out).mono ?_);rintro e w' ⟨rfl,rfl⟩) | (go_at_call 166;(with_reducible refine(jjaq _ _ _ _ _ _ (by go_cell) (by go_cell) _ H4.out).mono ?_);rintro e w' ⟨rfl,rfl⟩))
 go_ret;exact⟨rfl,by go_grown⟩
theorem mayEnd_ask (c:Nat)(l:List St)(w:World)(hc:VarB w c 0 1000000000):AskS 137 #[.pointer (some ⟨c,0,none⟩)] (fun s=>finB s.1) l w:=
 ⟨enters_of Tryz.func137 (by kernel_rfl) rfl,fun j hj W va hW hA=>mayEnd_any _ va (by obtain⟨a,cp,h⟩:=hA.sl;exact⟨a,_,cp,h⟩) c W (hc.later hW (Nat.le_refl _)) _ rfl⟩
theorem mayBe_ask (cl cc cs:Nat)(n:Nat)(w:World)(hl:VarB w cl 0 1000)(hc:VarB w cc 0 1000000000)(hs:VarB w cs 0 ((n:Int)-1)):AskA 136 #[.pointer (some ⟨cl,0,none⟩),.pointer (some ⟨cc,0,none⟩),.pointer (some ⟨cs,0,none⟩)] (arcB n) w:=
 ⟨enters_of Tryz.func136 (by kernel_rfl) rfl,fun a W hW=>mayBe_any a cl cc cs _ W (hl.later hW (Nat.le_refl _)) (hc.later hW (Nat.le_refl _)) (hs.later hW (Nat.le_refl _)) _ rfl⟩
theorem all_both (n:Nat)(l:List St):l.all (stB n)=(l.all (fun s=>finB s.1)&&l.all (fun s=>s.2.all (arcB n))):=by
  induction l with
  | nil=>rfl
  | cons s l ih=>
    simp only[List.all_cons,ih,stB];cases finB s.1<;>cases s.2.all (arcB n)<;>cases l.all (fun s=>finB s.1)<;>rfl
theorem jjaz (lo hi:Int)(w:World):
  Calls Tryz.prog 135 #[.int .i64 lo,.int .i64 hi] w fun e w'=>∃ b0 b1,e= .returned (.func (.func 166) #[] #[.pointer (some ⟨b0,0,none⟩),.pointer (some ⟨b1,0,none⟩)])∧w'.cell? ⟨b0,0,none⟩=some (.int .i64 lo)∧w'.cell? ⟨b1,0,none⟩=some (.int .i64 hi)∧Below w.heap.size w w':=by
 have hmf:∀ (fn:Fn) (first cap:Array Value) (w:World),(Instr.makeFunc fn first cap).run Tryz.prog w= .ok (.func fn first cap) w:=fun _ _ _ _=>rfl
 go_enter Tryz.func135,Tryz.ntmps135;go_wp2;go_ret;exact⟨_,_,rfl,by go_cell,by go_cell,by go_grown⟩
theorem varsB {w4:World}{p2 p3 p4 p5 p6 p7 c:Nat}{n:Int}(u2:w4.cell? ⟨p2,0,none⟩=some (.int .i64 0))(u3:w4.cell? ⟨p3,0,none⟩=some (.int .i64 n))(u4:w4.cell? ⟨p4,0,none⟩=some (.int .i64 0))(u5:w4.cell? ⟨p5,0,none⟩=some (.int .i64 1000))(u6:w4.cell? ⟨p6,0,none⟩=some (.int .i64 0))(u7:w4.cell? ⟨p7,0,none⟩=some (.int .i64 1000000000))
  (hc:w4.cell? ⟨c,0,none⟩=some (.func (.func 166) #[] #[.pointer (some ⟨p2,0,none⟩),.pointer (some ⟨p3,0,none⟩)])):
  VarB ((w4.alloc (.cells #[(.func (.func 166) #[] #[.pointer (some ⟨p4,0,none⟩),.pointer (some ⟨p5,0,none⟩)])] 110)).alloc (.cells #[(.func (.func 166) #[] #[.pointer (some ⟨p6,0,none⟩),.pointer (some ⟨p7,0,none⟩)])] 110)) c 0 n∧VarB ((w4.alloc (.cells #[(.func (.func 166) #[] #[.pointer (some ⟨p4,0,none⟩),.pointer (some ⟨p5,0,none⟩)])] 110)).alloc (.cells #[(.func (.func 166) #[] #[.pointer (some ⟨p6,0,none⟩),.pointer (some ⟨p7,0,none⟩)])] 110)) w4.heap.size 0 1000∧VarB ((w4.alloc (.cells #[(.func (.func 166) #[] #[.pointer (some ⟨p4,0,none⟩),.pointer (some ⟨p5,0,none⟩)])] 110)).alloc (.cells #[(.func (.func 166) #[] #[.pointer (some ⟨p6,0,none⟩),.pointer (some ⟨p7,0,none⟩)])] 110)) (w4.heap.size+1) 0 1000000000∧Below w4.heap.size w4 ((w4.alloc (.cells #[(.func (.func 166) #[] #[.pointer (some ⟨p4,0,none⟩),.pointer (some ⟨p5,0,none⟩)])] 110)).alloc (.cells #[(.func (.func 166) #[] #[.pointer (some ⟨p6,0,none⟩),.pointer (some ⟨p7,0,none⟩)])] 110)):=by
 have hb:Below w4.heap.size w4 ((w4.alloc (.cells #[(.func (.func 166) #[] #[.pointer (some ⟨p4,0,none⟩),.pointer (some ⟨p5,0,none⟩)])] 110)).alloc (.cells #[(.func (.func 166) #[] #[.pointer (some ⟨p6,0,none⟩),.pointer (some ⟨p7,0,none⟩)])] 110)):=((Below.refl _ _).alloc (Nat.le_refl _) _).alloc (by simp) _
 have h1:=Blk.made (w4.alloc (.cells #[(.func (.func 166) #[] #[.pointer (some ⟨p4,0,none⟩),.pointer (some ⟨p5,0,none⟩)])] 110)) #[(.func (.func 166) #[] #[.pointer (some ⟨p6,0,none⟩),.pointer (some ⟨p7,0,none⟩)])] 110;simp only[World.size_alloc]at h1
 exact⟨⟨_,low hc hb,_,_,rfl,low u2 hb,low u3 hb⟩,⟨_,((Blk.made w4 #[(.func (.func 166) #[] #[.pointer (some ⟨p4,0,none⟩),.pointer (some ⟨p5,0,none⟩)])] 110).alloc _).cell 0 rfl,_,_,rfl,low u4 hb,low u5 hb⟩,⟨_,h1.cell 0 rfl,_,_,rfl,low u6 hb,low u7 hb⟩,hb⟩
theorem isInRange_any (v:Value)(m:Mc)(w:World)(h:Mach w v m)(hok:okM m)(h60:m.2.length≤60)(r:Bool)(hr:rangeB m=r):
  Calls Tryz.prog 89 #[v] w fun e w'=>e= .returned (.bool r)∧Below w.heap.size w w':=by
 subst hr;obtain⟨z,l⟩:=m
 obtain⟨vs,rfl,hS⟩:=h
 obtain⟨a,cap,rfl⟩:=hS.sl
 have HM:Hid (Mach w (.agg #[.int .i64 z,.slice a l.length cap]) (z,l)):=⟨_,rfl,hS⟩
 have HK:Hid (okM (z,l)):=hok;have H60:Hid (l.length≤60):=h60;clear hS hok;have hmf:∀ (fn:Fn) (first cap:Array Value) (w:World),(Instr.makeFunc fn first cap).run Tryz.prog w= .ok (.func fn first cap) w:=fun _ _ _ _=>rfl
 unfold rangeB;simp only at h60 ⊢;rw[all_both];generalize hr1:inB z (-1) ((l.length:Int)-1)=r1;generalize hr2:l.all (fun s=>finB s.1)=r2;generalize hr3:l.all (fun s=>s.2.all (arcB l.length))=r3;have H1:Hid (inB z (-1) ((l.length:Int)-1)=r1):=hr1;have H2:Hid (l.all (fun s=>finB s.1)=r2):=hr2;have H3:Hid (l.all (fun s=>s.2.all (arcB l.length))=r3):=hr3;clear hr1 hr2 hr3;generalize hn:l.length=n at *
 have HN:Hid (l.length=n):=hn;clear hn;cases r1
 ·go_enter Tryz.func89,Tryz.ntmps89
  go_wp2_with (first
    | (go_at_call 135;(with_reducible refine(jjaz (-1) ((n:Int)-1) _).mono ?_);rintro e w1 ⟨p0,p1,rfl,x0,x1,hb⟩;obtain⟨s1,k1,hb1⟩:=boxed hb (by simp);have c0:=k1.cell 0 (v:= .int .i64 z) rfl;have c1:=k1.cell 1 (v:= .slice a n cap) rfl;have HB1:Hid (Below w.heap.size w w1):=hb1;clear k1 hb1 hb)
    | (go_at_call 135;(with_reducible refine(jjaz 0 ((n:Int)-1) _).mono ?_);rintro e w2 ⟨p2,p3,rfl,x2,x3,hb⟩;have y0:=low x0 hb;have y1:=low x1 hb;have d0:=low c0 hb;have d1:=low c1 hb;have HB2:Hid (Below w.heap.size w w2):=HB1.out.trans (hb.mono HB1.out.size);clear hb)
    | (go_at_call 135;(with_reducible refine(jjaz 0 1000 _).mono ?_);rintro e w3 ⟨p4,p5,rfl,x4,x5,hb⟩;have z0:=lowA y0 hb;have z1:=lowA y1 hb;have z2:=lowA x2 hb;have z3:=lowA x3 hb;have e0:=lowA d0 hb;have e1:=lowA d1 hb;have e2:=lowN hb;have HB3:Hid (Below w.heap.size w w3):=(HB2.out.alloc HB2.out.size _).trans (hb.mono (by have h:=HB2.out.size;simp;omega));clear hb)
    | (go_at_call 135;(with_reducible refine(jjaz 0 1000000000 _).mono ?_);rintro e w4 ⟨p6,p7,rfl,x6,x7,hb⟩;have u0:=low z0 hb;have u1:=low z1 hb;have u2:=low z2 hb;have u3:=low z3 hb;have u4:=low x4 hb;have u5:=low x5 hb;have f0:=low e0 hb;have f1:=low e1 hb;have f2:=low e2 hb;have HB4:Hid (Below w.heap.size w w4):=HB3.out.trans (hb.mono HB3.out.size);have t0:w.heap.size<w4.heap.size:=World.block_lt_of_cell? _ _ f0;have t1:p0<w4.heap.size:=World.block_lt_of_cell? _ _ u0;have t2:p1<w4.heap.size:=World.block_lt_of_cell? _ _ u1;have t3:p2<w4.heap.size:=World.block_lt_of_cell? _ _ u2;have t4:p3<w4.heap.size:=World.block_lt_of_cell? _ _ u3;have t5:p4<w4.heap.size:=World.block_lt_of_cell? _ _ u4;have t6:p5<w4.heap.size:=World.block_lt_of_cell? _ _ u5;have t7:p6<w4.heap.size:=World.block_lt_of_cell? _ _ x6;have t8:p7<w4.heap.size:=World.block_lt_of_cell? _ _ x7;have t9:w2.heap.size<w4.heap.size:=World.block_lt_of_cell? _ _ f2;obtain⟨vb1,vb2,vb3,hbu⟩:=varsB u2 u3 u4 u5 x6 x7 f2;have V1:Hid (VarB ((w4.alloc (.cells #[(.func (.func 166) #[] #[.pointer (some ⟨p4,0,none⟩),.pointer (some ⟨p5,0,none⟩)])] 110)).alloc (.cells #[(.func (.func 166) #[] #[.pointer (some ⟨p6,0,none⟩),.pointer (some ⟨p7,0,none⟩)])] 110)) w2.heap.size 0 ((n:Int)-1)):=vb1;have V2:Hid (VarB ((w4.alloc (.cells #[(.func (.func 166) #[] #[.pointer (some ⟨p4,0,none⟩),.pointer (some ⟨p5,0,none⟩)])] 110)).alloc (.cells #[(.func (.func 166) #[] #[.pointer (some ⟨p6,0,none⟩),.pointer (some ⟨p7,0,none⟩)])] 110)) w4.heap.size 0 1000):=vb2;have V3:Hid (VarB ((w4.alloc (.cells #[(.func (.func 166) #[] #[.pointer (some ⟨p4,0,none⟩),.pointer (some ⟨p5,0,none⟩)])] 110)).alloc (.cells #[(.func (.func 166) #[] #[.pointer (some ⟨p6,0,none⟩),.pointer (some ⟨p7,0,none⟩)])] 110)) (w4.heap.size+1) 0 1000000000):=vb3;have HU:Hid (Below w.heap.size w ((w4.alloc (.cells #[(.func (.func 166) #[] #[.pointer (some ⟨p4,0,none⟩),.pointer (some ⟨p5,0,none⟩)])] 110)).alloc (.cells #[(.func (.func 166) #[] #[.pointer (some ⟨p6,0,none⟩),.pointer (some ⟨p7,0,none⟩)])] 110))):=HB4.out.trans (hbu.mono HB4.out.size);clear vb1 vb2 vb3 hbu hb y0 y1 z0 z1 z2 z3 d0 d1 e0 e1 e2 c0 c1 x0 x1 x2 x3 x4 x5)
    | (go_at_call 166;(with_reducible refine(jjaq _ _ _ _ _ _ (by go_cell) (by go_cell) _ H1.out).mono ?_);rintro e w' ⟨rfl,rfl⟩))
  go_ret;exact⟨rfl,by (have h:=HB4.out);go_grown⟩
 cases r2
 ·go_enter Tryz.func89,Tryz.ntmps89
  go_wp2_with (first
    | (go_at_call 135;(with_reducible refine(jjaz (-1) ((n:Int)-1) _).mono ?_);rintro e w1 ⟨p0,p1,rfl,x0,x1,hb⟩;obtain⟨s1,k1,hb1⟩:=boxed hb (by simp);have c0:=k1.cell 0 (v:= .int .i64 z) rfl;have c1:=k1.cell 1 (v:= .slice a n cap) rfl;have HB1:Hid (Below w.heap.size w w1):=hb1;clear k1 hb1 hb)
    | (go_at_call 135;(with_reducible refine(jjaz 0 ((n:Int)-1) _).mono ?_);rintro e w2 ⟨p2,p3,rfl,x2,x3,hb⟩;have y0:=low x0 hb;have y1:=low x1 hb;have d0:=low c0 hb;have d1:=low c1 hb;have HB2:Hid (Below w.heap.size w w2):=HB1.out.trans (hb.mono HB1.out.size);clear hb)
    | (go_at_call 135;(with_reducible refine(jjaz 0 1000 _).mono ?_);rintro e w3 ⟨p4,p5,rfl,x4,x5,hb⟩;have z0:=lowA y0 hb;have z1:=lowA y1 hb;have z2:=lowA x2 hb;have z3:=lowA x3 hb;have e0:=lowA d0 hb;have e1:=lowA d1 hb;have e2:=lowN hb;have HB3:Hid (Below w.heap.size w w3):=(HB2.out.alloc HB2.out.size _).trans (hb.mono (by have h:=HB2.out.size;simp;omega));clear hb)
    | (go_at_call 135;(with_reducible refine(jjaz 0 1000000000 _).mono ?_);rintro e w4 ⟨p6,p7,rfl,x6,x7,hb⟩;have u0:=low z0 hb;have u1:=low z1 hb;have u2:=low z2 hb;have u3:=low z3 hb;have u4:=low x4 hb;have u5:=low x5 hb;have f0:=low e0 hb;have f1:=low e1 hb;have f2:=low e2 hb;have HB4:Hid (Below w.heap.size w w4):=HB3.out.trans (hb.mono HB3.out.size);have t0:w.heap.size<w4.heap.size:=World.block_lt_of_cell? _ _ f0;have t1:p0<w4.heap.size:=World.block_lt_of_cell? _ _ u0;have t2:p1<w4.heap.size:=World.block_lt_of_cell? _ _ u1;have t3:p2<w4.heap.size:=World.block_lt_of_cell? _ _ u2;have t4:p3<w4.heap.size:=World.block_lt_of_cell? _ _ u3;have t5:p4<w4.heap.size:=World.block_lt_of_cell? _ _ u4;have t6:p5<w4.heap.size:=World.block_lt_of_cell? _ _ u5;have t7:p6<w4.heap.size:=World.block_lt_of_cell? _ _ x6;have t8:p7<w4.heap.size:=World.block_lt_of_cell? _ _ x7;have t9:w2.heap.size<w4.heap.size:=World.block_lt_of_cell? _ _ f2;obtain⟨vb1,vb2,vb3,hbu⟩:=varsB u2 u3 u4 u5 x6 x7 f2;have V1:Hid (VarB ((w4.alloc (.cells #[(.func (.func 166) #[] #[.pointer (some ⟨p4,0,none⟩),.pointer (some ⟨p5,0,none⟩)])] 110)).alloc (.cells #[(.func (.func 166) #[] #[.pointer (some ⟨p6,0,none⟩),.pointer (some ⟨p7,0,none⟩)])] 110)) w2.heap.size 0 ((n:Int)-1)):=vb1;have V2:Hid (VarB ((w4.alloc (.cells #[(.func (.func 166) #[] #[.pointer (some ⟨p4,0,none⟩),.pointer (some ⟨p5,0,none⟩)])] 110)).alloc (.cells #[(.func (.func 166) #[] #[.pointer (some ⟨p6,0,none⟩),.pointer (some ⟨p7,0,none⟩)])] 110)) w4.heap.size 0 1000):=vb2;have V3:Hid (VarB ((w4.alloc (.cells #[(.func (.func 166) #[] #[.pointer (some ⟨p4,0,none⟩),.pointer (some ⟨p5,0,none⟩)])] 110)).alloc (.cells #[(.func (.func 166) #[] #[.pointer (some ⟨p6,0,none⟩),.pointer (some ⟨p7,0,none⟩)])] 110)) (w4.heap.size+1) 0 1000000000):=vb3;have HU:Hid (Below w.heap.size w ((w4.alloc (.cells #[(.func (.func 166) #[] #[.pointer (some ⟨p4,0,none⟩),.pointer (some ⟨p5,0,none⟩)])] 110)).alloc (.cells #[(.func (.func 166) #[] #[.pointer (some ⟨p6,0,none⟩),.pointer (some ⟨p7,0,none⟩)])] 110))):=HB4.out.trans (hbu.mono HB4.out.size);clear vb1 vb2 vb3 hbu hb y0 y1 z0 z1 z2 z3 d0 d1 e0 e1 e2 c0 c1 x0 x1 x2 x3 x4 x5)
    | (go_at_call 166;(with_reducible refine(jjaq _ _ _ _ _ _ (by go_cell) (by go_cell) _ H1.out).mono ?_);rintro e w' ⟨rfl,rfl⟩)
      | (go_at_call 100;(with_reducible refine(jjat _ (z,l) _ (HM.out.later HU.out (Nat.le_refl _)) _ _ _ (mayEnd_ask _ l _ V3.out) (by show l.length≤60;rw[HN.out];exact H60.out) _ H2.out).mono ?_);rintro e w5 ⟨rfl,hb⟩;have HB5:Hid (Below w.heap.size w w5):=HU.out.trans (hb.mono HU.out.size);clear hb))
  go_ret;exact⟨rfl,HB5.out⟩
 go_enter Tryz.func89,Tryz.ntmps89;go_wp2_with (first
   | (go_at_call 135;(with_reducible refine(jjaz (-1) ((n:Int)-1) _).mono ?_);rintro e w1 ⟨p0,p1,rfl,x0,x1,hb⟩;obtain⟨s1,k1,hb1⟩:=boxed hb (by simp);have c0:=k1.cell 0 (v:= .int .i64 z) rfl;have c1:=k1.cell 1 (v:= .slice a n cap) rfl;have HB1:Hid (Below w.heap.size w w1):=hb1;clear k1 hb1 hb)
   | (go_at_call 135;(with_reducible refine(jjaz 0 ((n:Int)-1) _).mono ?_);rintro e w2 ⟨p2,p3,rfl,x2,x3,hb⟩;have y0:=low x0 hb;have y1:=low x1 hb;have d0:=low c0 hb;have d1:=low c1 hb;have HB2:Hid (Below w.heap.size w w2):=HB1.out.trans (hb.mono HB1.out.size);clear hb)
   | (go_at_call 135;(with_reducible refine(jjaz 0 1000 _).mono ?_);rintro e w3 ⟨p4,p5,rfl,x4,x5,hb⟩;have z0:=lowA y0 hb;have z1:=lowA y1 hb;have z2:=lowA x2 hb;have z3:=lowA x3 hb;have e0:=lowA d0 hb;have e1:=lowA d1 hb;have e2:=lowN hb;have HB3:Hid (Below w.heap.size w w3):=(HB2.out.alloc HB2.out.size _).trans (hb.mono (by have h:=HB2.out.size;simp;omega));clear hb)
   | (go_at_call 135;(with_reducible refine(jjaz 0 1000000000 _).mono ?_);rintro e w4 ⟨p6,p7,rfl,x6,x7,hb⟩;have u0:=low z0 hb;have u1:=low z1 hb;have u2:=low z2 hb;have u3:=low z3 hb;have u4:=low x4 hb;have u5:=low x5 hb;have f0:=low e0 hb;have f1:=low e1 hb;have f2:=low e2 hb;have HB4:Hid (Below w.heap.size w w4):=HB3.out.trans (hb.mono HB3.out.size);have t0:w.heap.size<w4.heap.size:=World.block_lt_of_cell? _ _ f0;have t1:p0<w4.heap.size:=World.block_lt_of_cell? _ _ u0;have t2:p1<w4.heap.size:=World.block_lt_of_cell? _ _ u1;have t3:p2<w4.heap.size:=World.block_lt_of_cell? _ _ u2;have t4:p3<w4.heap.size:=World.block_lt_of_cell? _ _ u3;have t5:p4<w4.heap.size:=World.block_lt_of_cell? _ _ u4;have t6:p5<w4.heap.size:=World.block_lt_of_cell? _ _ u5;have t7:p6<w4.heap.size:=World.block_lt_of_cell? _ _ x6;have t8:p7<w4.heap.size:=World.block_lt_of_cell? _ _ x7;have t9:w2.heap.size<w4.heap.size:=World.block_lt_of_cell? _ _ f2;obtain⟨vb1,vb2,vb3,hbu⟩:=varsB u2 u3 u4 u5 x6 x7 f2;have V1:Hid (VarB ((w4.alloc (.cells #[(.func (.func 166) #[] #[.pointer (some ⟨p4,0,none⟩),.pointer (some ⟨p5,0,none⟩)])] 110)).alloc (.cells #[(.func (.func 166) #[] #[.pointer (some ⟨p6,0,none⟩),.pointer (some ⟨p7,0,none⟩)])] 110)) w2.heap.size 0 ((n:Int)-1)):=vb1;have V2:Hid (VarB ((w4.alloc (.cells #[(.func (.func 166) #[] #[.pointer (some ⟨p4,0,none⟩),.pointer (some ⟨p5,0,none⟩)])] 110)).alloc (.cells #[(.func (.func 166) #[] #[.pointer (some ⟨p6,0,none⟩),.pointer (some ⟨p7,0,none⟩)])] 110)) w4.heap.size 0 1000):=vb2;have V3:Hid (VarB ((w4.alloc (.cells #[(.func (.func 166) #[] #[.pointer (some ⟨p4,0,none⟩),.pointer (some ⟨p5,0,none⟩)])] 110)).alloc (.cells #[(.func (.func 166) #[] #[.pointer (some ⟨p6,0,none⟩),.pointer (some ⟨p7,0,none⟩)])] 110)) (w4.heap.size+1) 0 1000000000):=vb3;have HU:Hid (Below w.heap.size w ((w4.alloc (.cells #[(.func (.func 166) #[] #[.pointer (some ⟨p4,0,none⟩),.pointer (some ⟨p5,0,none⟩)])] 110)).alloc (.cells #[(.func (.func 166) #[] #[.pointer (some ⟨p6,0,none⟩),.pointer (some ⟨p7,0,none⟩)])] 110))):=HB4.out.trans (hbu.mono HB4.out.size);clear vb1 vb2 vb3 hbu hb y0 y1 z0 z1 z2 z3 d0 d1 e0 e1 e2 c0 c1 x0 x1 x2 x3 x4 x5)
   | (go_at_call 166;(with_reducible refine(jjaq _ _ _ _ _ _ (by go_cell) (by go_cell) _ H1.out).mono ?_);rintro e w' ⟨rfl,rfl⟩)
     | (go_at_call 100;(with_reducible refine(jjat _ (z,l) _ (HM.out.later HU.out (Nat.le_refl _)) _ _ _ (mayEnd_ask _ l _ V3.out) (by show l.length≤60;rw[HN.out];exact H60.out) _ H2.out).mono ?_);rintro e w5 ⟨rfl,hb⟩;have HB5:Hid (Below w.heap.size w w5):=HU.out.trans (hb.mono HU.out.size);have r0:=low (low (low f0 ((Below.refl _ _).alloc (Nat.le_refl _) (.cells #[(.func (.func 166) #[] #[.pointer (some ⟨p4,0,none⟩),.pointer (some ⟨p5,0,none⟩)])] 110))) ((Below.refl _ _).alloc (Nat.le_refl _) _)) hb;have r1:=low (low (low f1 ((Below.refl _ _).alloc (Nat.le_refl _) (.cells #[(.func (.func 166) #[] #[.pointer (some ⟨p4,0,none⟩),.pointer (some ⟨p5,0,none⟩)])] 110))) ((Below.refl _ _).alloc (Nat.le_refl _) _)) hb;have W1:Hid (VarB w5 w2.heap.size 0 ((n:Int)-1)):=V1.out.later hb (Nat.le_refl _);have W2:Hid (VarB w5 w4.heap.size 0 1000):=V2.out.later hb (Nat.le_refl _);have W3:Hid (VarB w5 (w4.heap.size+1) 0 1000000000):=V3.out.later hb (Nat.le_refl _);clear hb)
   | (go_at_call 97;(with_reducible refine(jjau _ (z,l) _ (HM.out.later HB5.out (Nat.le_refl _)) _ _ _ (mayBe_ask _ _ _ n _ W2.out W3.out W1.out) HK.out (by show l.length≤60;rw[HN.out];exact H60.out) _ H3.out).mono ?_);rintro e w6 ⟨rfl,hb⟩;have HB6:Hid (Below w.heap.size w w6):=HB5.out.trans (hb.mono HB5.out.size);clear hb))
 go_ret;exact⟨rfl,HB6.out⟩
end Go.Proofs.YtppkiejhhmahcaaGreatDoor.Wt
