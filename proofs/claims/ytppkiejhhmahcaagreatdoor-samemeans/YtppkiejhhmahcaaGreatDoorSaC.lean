/- Facts, joined. -/
import Derived.Test.YtppkiejhhmahcaaGreatDoorSai
set_option linter.unusedSimpArgs false
set_option linter.unusedVariables false
set_option maxHeartbeats 2000000
set_option maxRecDepth 100000
namespace Go.Proofs.YtppkiejhhmahcaaGreatDoor.Wt
open ChangeShapes WideShapes ChangeAt RowKit Pl
def accA (a:Ar):Bool:=decide (a.1=a.2.1)
def fullA (a:Ar):Bool:= !(decide (a.1=0)&&decide (a.2.1=0))
def freeA (a:Ar):Bool:=decide (a.2.2.1=0)
def freeS (s:St):Bool:=decide (s.1=0)||decide (s.1=1000000001)
theorem acc_ask (w:World):AskA 99 #[] accA w:=by
 refine⟨enters_of Tryz.func99 (by kernel_rfl) rfl,fun a W hW=>?_⟩
 obtain⟨a0,a1,a2,a3⟩:=a
 show Calls _ _ #[.agg #[.int .i64 a0,.int .i64 a1,.int .i64 a2,.int .i64 a3]] W _;by_cases h:a0=a1
 ·subst h
  go_enter Tryz.func99,Tryz.ntmps99;go_wp2;go_ret;exact⟨jjar (by simp[accA]),by go_grown⟩
 ·have hne:(a0==a1)=false:=by simpa using h
  go_enter Tryz.func99,Tryz.ntmps99;go_wp2;go_ret;exact⟨jjar (by simp[accA,h]),by go_grown⟩
theorem jjeu (w:World):AskA 103 #[] freeA w:=by
 refine⟨enters_of Tryz.func103 (by kernel_rfl) rfl,fun a W hW=>?_⟩
 obtain⟨a0,a1,a2,a3⟩:=a
 show Calls _ _ #[.agg #[.int .i64 a0,.int .i64 a1,.int .i64 a2,.int .i64 a3]] W _;by_cases h:a2=0
 ·subst h
  go_enter Tryz.func103,Tryz.ntmps103;go_wp2;go_ret;exact⟨jjar (by simp[freeA]),by go_grown⟩
 ·have hne:(a2==0)=false:=by simpa using h
  go_enter Tryz.func103,Tryz.ntmps103;go_wp2;go_ret;exact⟨jjar (by simp[freeA,h]),by go_grown⟩
theorem jjev (w:World):AskA 98 #[] fullA w:=by
 refine⟨enters_of Tryz.func98 (by kernel_rfl) rfl,fun a W hW=>?_⟩
 obtain⟨a0,a1,a2,a3⟩:=a
 show Calls _ _ #[.agg #[.int .i64 a0,.int .i64 a1,.int .i64 a2,.int .i64 a3]] W _;by_cases h:a0=0
 ·subst h
  by_cases h1:a1=0
  ·subst h1
   go_enter Tryz.func98,Tryz.ntmps98;go_wp2;go_ret;exact⟨jjar (by simp[fullA]),by go_grown⟩
  ·have hne:(a1 !=0)=true:=by simpa using h1
   go_enter Tryz.func98,Tryz.ntmps98;go_wp2;go_ret;exact⟨jjar (by simp[fullA,h1]),by go_grown⟩
 ·have hne:(a0 !=0)=true:=by simpa using h
  go_enter Tryz.func98,Tryz.ntmps98;go_wp2;go_ret;exact⟨jjar (by simp[fullA,h]),by go_grown⟩
theorem ends_ask (l:List St)(w:World):AskS 104 #[] freeS l w:=by
 refine⟨enters_of Tryz.func104 (by kernel_rfl) rfl,fun j hj W va hW hA=>?_⟩
 generalize el l j=s at *;obtain⟨f,ar⟩:=s
 obtain⟨a,cap,rfl⟩:=hA.sl
 show Calls _ _ #[.agg #[.int .i64 f,.slice a ar.length cap]] W _;clear hA;by_cases h:f=0
 ·subst h
  go_enter Tryz.func104,Tryz.ntmps104;go_wp2;go_ret;exact⟨jjar (by simp[freeS]),by go_grown⟩
 ·have hne:(f==0)=false:=by simpa using h
  by_cases h1:f=1000000001
  ·subst h1
   go_enter Tryz.func104,Tryz.ntmps104;go_wp2;go_ret;exact⟨jjar (by simp[freeS]),by go_grown⟩
  ·have hne1:(f==1000000001)=false:=by simpa using h1
   go_enter Tryz.func104,Tryz.ntmps104;go_wp2;go_ret;exact⟨jjar (by simp[freeS,h,h1]),by go_grown⟩
open Maps
theorem lawPK :Go.WideMaps.KeyLaw Tryz.prog 167:=Go.deep_law (m:=2) (by omega) (by kernel_rfl) (by kernel_rfl) (by kernel_rfl)
theorem lawP :Keyed Tryz.prog 167:=Keyed.of_law lawPK
theorem keyP {x y:Int}(hx:(Lit.int .i64 x).wf=true)(hy:(Lit.int .i64 y).wf=true):∃ kl,keyOf Tryz.prog 167 (.agg #[.int .i64 x,.int .i64 y])=some kl:=by
 have h1:Tryz.prog.keyType 167=true:=by kernel_rfl
 have hc:Tryz.prog.cellsOf 167=2:=by kernel_rfl
 have hi:Tryz.prog.cellsOf 3=1:=by kernel_rfl
 have h2:(Value.agg #[.int .i64 x,.int .i64 y]).formed Tryz.prog 167=true:=by simp[Value.formed,Tryz.underlying167,hc]
 obtain⟨n,hn⟩:∃ n,Tryz.prog.types.size+1=n+1+1:=⟨Tryz.prog.types.size-1,by kernel_rfl⟩
 have h3:Tryz.prog.keyLits (Tryz.prog.types.size+1) 167 [.int .i64 x,.int .i64 y]=some [.int .i64 x,.int .i64 y]:=by
  rw[hn];simp[Program.keyLits,Tryz.underlying167,Tryz.underlying3,hc,hi,hx,hy]
 refine⟨.string (keyBytes [.int .i64 x,.int .i64 y]),?_⟩
 unfold keyOf;rw[Tryz.underlying167];simp only[h1,h2,Bool.and_self,if_true,Value.cells,h3,Option.map_some]
theorem keyP_inj {x y x' y':Int}{kl:Lit}(h:keyOf Tryz.prog 167 (.agg #[.int .i64 x,.int .i64 y])=some kl)(h':keyOf Tryz.prog 167 (.agg #[.int .i64 x',.int .i64 y'])=some kl):x=x'∧y=y':=by
 have:=lawP.inj h h';simpa using this
def Seen (w:World)(m n:Nat)(f:Int→Int→Int):Prop:=
 ∃ D:DataW Unit,w.ownsMap Tryz.prog 167 (plainElem Tryz.prog 3) m n D∧∀ x y kl,keyOf Tryz.prog 167 (.agg #[.int .i64 x,.int .i64 y])=some kl→D.atKey kl (.lit (.int .i64 0))= .lit (.int .i64 (f x y))
theorem Seen.made (w:World):Seen (w.alloc (.map #[] 0)) w.heap.size 0 (fun _ _=>0):=
 ⟨_,World.ownsMap_made w _ _ _,fun x y kl h=>by simp[DataW.atKey]⟩
theorem Seen.drew {w:World}{m n:Nat}{f:Int→Int→Int}(h:Seen w m n f):Seen w.drew m n f:=h
theorem Seen.lt {w:World}{m n:Nat}{f:Int→Int→Int}(h:Seen w m n f):m<w.heap.size:=by obtain⟨D,h,_⟩:=h;exact h.lt
theorem Seen.kept {w w':World}{m n:Nat}{f:Int→Int→Int}{row:Option Nat}(h:Seen w m n f)(hg:w.grownBy w' row)(hne:some m≠row):Seen w' m n f:=by
 obtain⟨D,h1,h2⟩:=h
 exact⟨D,h1.kept hg hne,h2⟩
theorem zeroI (w:World):(zeroValue 3).run Tryz.prog w= .ok (.int .i64 0) w:=by kernel_rfl
theorem Seen.look {w:World}{m n:Nat}{f:Int→Int→Int}(h:Seen w m n f){x y:Int}(hx:(Lit.int .i64 x).wf=true)(hy:(Lit.int .i64 y).wf=true):
  (Instr.lookup 165 (.map (some m)) (.agg #[.int .i64 x,.int .i64 y]) false).run Tryz.prog w= .ok (.int .i64 (f x y)) w:=by
 obtain⟨D,h1,h2⟩:=h
 obtain⟨kl,hk⟩:=keyP hx hy
 obtain⟨c,hr,hc,_⟩:=h1.lookup_int lawP Tryz.underlying165 Tryz.underlying3 (zeroI w) hk
 rw[h2 x y kl hk]at hc;injection hc with e1
 injection e1 with _ e2
 rw[e2];exact hr
theorem Seen.entry {w:World}{m n:Nat}{f:Int→Int→Int}(h:Seen w m n f)(hn:n<4398046511104){x y:Int}(hx:(Lit.int .i64 x).wf=true)(hy:(Lit.int .i64 y).wf=true)(v:Int)(hv:(Lit.int .i64 v).wf=true):
    ∃ v0 st w1 w2,(Instr.mapEntry 165 (.map (some m)) (.agg #[.int .i64 x,.int .i64 y])).run Tryz.prog w= .ok (.tuple #[v0,goInt st]) w1∧w.grownBy w1 (some m)∧
      (Instr.entryStore 165 (.map (some m)) (goInt st) (.int .i64 v)).run Tryz.prog w1= .ok () w2∧w.grownBy w2 (some m)∧Seen w2 m (n+1) (fun a b=>if a=x∧b=y then v else f a b):=by
  obtain⟨D,h1,h2⟩:=h
  obtain⟨kl,hk⟩:=keyP hx hy
  obtain⟨w2,hu,ho2,hg2⟩:=World.ownsMap.update (R:=plainElem Tryz.prog 3) h1 lawP Tryz.underlying165 (by unfold maxLen;omega) hk (plainElem_int Tryz.underlying3 hv)
  obtain⟨es,clock,hb,F,_,_⟩:=id h1
  obtain⟨v0,st,es1,clock1,r1,_,r2⟩:=Go.WideElems.entry_then_store lawPK Tryz.underlying165 zeroI hb F hk
  obtain⟨es',clock',r3,r4⟩:=r2 (Go.ChangeMaps.setBlock w m (.map es1 clock1)) (.int .i64 v) (Go.ChangeMaps.heap_setBlock_same hb _)
  have hgw:∀ o,w.grownBy (Go.ChangeMaps.setBlock w m o) (some m):=fun o=>⟨rfl,rfl,rfl,by simp[Go.ChangeMaps.setBlock],fun i _ hi=>Go.ChangeMaps.heap_setBlock_other hb _ (fun e=>hi (by rw[e]))⟩
  have e2:w2=Go.ChangeMaps.setBlock w m (.map es' clock'):=by
    rw[hu]at r4;injection r4
  have e3:Go.ChangeMaps.setBlock (Go.ChangeMaps.setBlock w m (.map es1 clock1)) m (.map es' clock')=w2:=by
    rw[e2];simp[Go.ChangeMaps.setBlock]
  refine⟨v0,st,_,w2,r1,hgw _,?_,hg2,D.put kl (.lit (.int .i64 v)),ho2,?_⟩
  · rw[r3,e3]
  · intro a b kl' hk'
    by_cases e:a=x∧b=y
    · obtain⟨rfl,rfl⟩:=e
      have:kl'=kl:=by rw[hk]at hk';injection hk' with h;exact h.symm
      subst this;simp only[and_self,if_true];exact atKey_put_same (h1.isMap) (lawP.key hk) _ _
    · simp only
      rw[if_neg e];have hne:kl'≠kl:=fun h=>by
        subst h;exact e (keyP_inj hk' hk)
      rw[atKey_put_other hne];exact h2 a b kl' hk'
theorem Seen.half {w w1:World}{m n:Nat}{f:Int→Int→Int}(h:Seen w m n f)(hn:n<4398046511104){x y:Int}(hx:(Lit.int .i64 x).wf=true)(hy:(Lit.int .i64 y).wf=true){u:Value}
  (hr:(Instr.mapEntry 165 (.map (some m)) (.agg #[.int .i64 x,.int .i64 y])).run Tryz.prog w= .ok u w1):Seen w1 m (n+1) f:=by
 obtain⟨D,h1,h2⟩:=h
 obtain⟨kl,hk⟩:=keyP hx hy
 have ht:=Tryz.underlying165;obtain⟨es,clock,hb,F,hs,hD⟩:=id h1
 rcases lawPK.find w hk es.toList F.keys with⟨k1,k2⟩ | ⟨j,e0,k1,k2,k3⟩
 ·have r1:(Instr.mapEntry 165 (.map (some m)) (.agg #[.int .i64 x,.int .i64 y])).run Tryz.prog w= .ok (.tuple #[.int .i64 0,goInt clock]) (Go.ChangeMaps.setBlock w m (.map (es.push ⟨.agg #[.int .i64 x,.int .i64 y],.int .i64 0,clock⟩) (clock+1))):=by
   simp[Instr.mapEntry,run_underlying ht,MapKept.run_getObj_map hb,lawPK.check w false hk,k1,zeroI,MapKept.run_setObj_map _ hb,Result.andThen,Go.ChangeMaps.setBlock]
  have r2:(Instr.mapUpdate 165 (.map (some m)) (.agg #[.int .i64 x,.int .i64 y]) (.int .i64 0)).run Tryz.prog w= .ok () (Go.ChangeMaps.setBlock w m (.map (es.push ⟨.agg #[.int .i64 x,.int .i64 y],.int .i64 0,clock⟩) (clock+1))):=by
   simp[Instr.mapUpdate,run_underlying ht,MapKept.run_getObj_map hb,lawPK.check w false hk,k1,MapKept.run_setObj_map _ hb,Result.andThen,Go.ChangeMaps.setBlock]
  obtain⟨w2,hu,ho2,_⟩:=World.ownsMap.update (R:=plainElem Tryz.prog 3) h1 lawP ht (by unfold maxLen;omega) hk (plainElem_int Tryz.underlying3 (a:=0) (by decide))
  rw[hr]at r1;rw[hu]at r2;injection r1 with _ e1
  injection r2 with _ e2
  rw[e1,← e2];refine⟨_,ho2,fun a b kl' hk'=>?_⟩
  by_cases e:kl'=kl
  ·subst e
   obtain⟨rfl,rfl⟩:=keyP_inj hk hk'
   rw[atKey_put_same (h1.isMap) (lawP.key hk)];have h3:=h2 x y kl' hk;have h4:D.atKey kl' (.lit (.int .i64 0))= .lit (.int .i64 0):=by
    rw[hD];exact Go.WideElems.atKey_none lawPK F hk k2 _
   rw[h3]at h4;exact h4.symm
  ·rw [atKey_put_other e]
   exact h2 a b kl' hk'
 ·have hj:es[j]? =some e0:=by simpa using k2
  have hsame:es.modify j (fun e=>{e with key:= .agg #[.int .i64 x,.int .i64 y]})=es:=by
   apply Array.ext'
   rw[Array.toList_modify,ChangeMaps.modify_eq_set _ _ _ _ k2];have:({e0 with key:= .agg #[.int .i64 x,.int .i64 y]}:MapEntry)=e0:=by rw[← k3]
   rw[this];exact Go.WideElems.set_self _ _ _ k2
  have r1:(Instr.mapEntry 165 (.map (some m)) (.agg #[.int .i64 x,.int .i64 y])).run Tryz.prog w= .ok (.tuple #[e0.val,goInt e0.born]) (Go.ChangeMaps.setBlock w m (.map es clock)):=by
   simp[Instr.mapEntry,run_underlying ht,MapKept.run_getObj_map hb,lawPK.check w false hk,k1,hj,k3,lawPK.stays w hk,hsame,MapKept.run_setObj_map _ hb,Result.andThen,Go.ChangeMaps.setBlock]
  rw[hr]at r1;injection r1 with _ e1
  rw[e1];exact⟨D,⟨es,clock,Go.ChangeMaps.heap_setBlock_same hb _,F,by omega,hD⟩,h2⟩
theorem onceTo_snoc {l:List Ar}{k:Nat}(h:∀ i,i<k→∀ j,j<i→pairB (el l i) (el l j)=false)(hk:∀ j,j<k→pairB (el l k) (el l j)=false):∀ i,i<k+1→∀ j,j<i→pairB (el l i) (el l j)=false:=fun i hi j hj=>by
 by_cases e:i=k
 ·subst e;exact hk j hj
 ·exact h i (by omega) j hj
def seenB (l:List Ar)(k:Nat)(x y:Int):Int:=if (List.range k).any (fun j=>decide ((el l j).1=x)&&decide ((el l j).2.1=y))=true then 1 else 0
theorem seenB_zero (l:List Ar)(x y:Int):seenB l 0 x y=0:=by simp[seenB]
theorem seenB_succ (l:List Ar)(k:Nat)(x y:Int):seenB l (k+1) x y=if x=(el l k).1∧y=(el l k).2.1 then 1 else seenB l k x y:=by
 unfold seenB;rw[List.range_succ,List.any_append];by_cases h:x=(el l k).1∧y=(el l k).2.1
 ·obtain ⟨rfl,rfl⟩:=h
  simp
 ·have:(decide ((el l k).1=x)&&decide ((el l k).2.1=y))=false:=by
   rw[Bool.and_eq_false_iff];by_cases e:(el l k).1=x
   ·right;simp;intro e2;exact h ⟨e.symm,e2.symm⟩
   ·left;simpa using e
  simp only[List.any_cons,List.any_nil,this,Bool.or_false,if_neg h]
theorem seenB_one {l:List Ar}{k:Nat}{x y:Int}:seenB l k x y=1↔∃ j,j<k∧(el l j).1=x∧(el l j).2.1=y:=by
 unfold seenB;simp only[List.any_eq_true,List.mem_range,Bool.and_eq_true,decide_eq_true_eq];constructor
 ·intro h
  split at h
  ·rename_i h1;exact h1
  ·simp at h
 ·intro h
  rw[if_pos h]
theorem jje6 (l:List Ar)(k:Nat)(x y:Int):seenB l k x y=1∨seenB l k x y=0:=by unfold seenB;split<;>simp
theorem hasOnce_any (f:Int)(va:Value)(l:List Ar)(w:World)(h:Arcs w va l)(hl:l.length≤400)(hw:∀ j,j<l.length→(Lit.int .i64 (el l j).1).wf=true∧(Lit.int .i64 (el l j).2.1).wf=true)(r:Bool)(hr:onceB l=r):
  Calls Tryz.prog 101 #[.agg #[.int .i64 f,va]] w fun e w'=>e= .returned (.bool r)∧Below w.heap.size w w':=by
 obtain⟨a,cap,rfl,hc⟩:=h.get
 have HC:Hid (∀ j,j<l.length→∃ b off,a=some ⟨b,off,none⟩∧b<w.heap.size∧w.cell? ⟨b,off+j*4,none⟩=some (.int .i64 (el l j).1)∧w.cell? ⟨b,off+j*4+1,none⟩=some (.int .i64 (el l j).2.1)∧w.cell? ⟨b,off+j*4+2,none⟩=some (.int .i64 (el l j).2.2.1)∧w.cell? ⟨b,off+j*4+3,none⟩=some (.int .i64 (el l j).2.2.2)):=hc;have HR:Hid (onceB l=r):=hr
 have HW:Hid (∀ j,j<l.length→(Lit.int .i64 (el l j).1).wf=true∧(Lit.int .i64 (el l j).2.1).wf=true):=hw;clear h hc hr hw;generalize hn:l.length=n at *;have HN:Hid (l.length=n):=hn;clear hn;have hm1:=fun m w=>jjes (P:=Tryz.prog) Tryz.underlying165 m w
 go_enter Tryz.func101,Tryz.ntmps101;go_wp2;go_loopw [14] (fun i wr=>∃ k:Nat,k≤n∧i= .int .i64 k∧Hid (∀ i,i<k→∀ j,j<i→pairB (el l i) (el l j)=false)∧Hid (Seen wr (w.heap.size+1) k (seenB l k))∧Hid (Below w.heap.size w wr)) (fun i _=>n-(intOf i).toNat)
 case atStart=>
  refine⟨0,Nat.zero_le _,rfl,fun i hi=>by omega,?_,?_⟩
  ·have h:=Seen.made (w.alloc (.cells #[.int .i64 f,.slice a n cap] 45))
   simp only[World.size_alloc]at h;obtain⟨D,h1,h2⟩:=h
   exact⟨D,h1,fun x y kl hk=>by rw[h2 x y kl hk,seenB_zero]⟩
  ·show Below _ _ _;go_grown
 case round=>
  obtain⟨k,hk,rfl,hok,hS,hb⟩:=hrel
  by_cases hlt:k<n
  ·obtain ⟨b,off,rfl,hbl,g0,g1,g2,g3⟩:=HC.out k hlt
   have g0:=(hb.out.cell (p:=⟨b,off+k*4,none⟩) hbl).trans g0;have g1:=(hb.out.cell (p:=⟨b,off+k*4+1,none⟩) hbl).trans g1;have g2:=(hb.out.cell (p:=⟨b,off+k*4+2,none⟩) hbl).trans g2;have g3:=(hb.out.cell (p:=⟨b,off+k*4+3,none⟩) hbl).trans g3;obtain⟨wx,wy⟩:=HW.out k hlt
   have SU:Seen ((wr.alloc (.cells #[.int .i64 (el l k).1,.int .i64 (el l k).2.1,.int .i64 (el l k).2.2.1,.int .i64 (el l k).2.2.2] 56)).alloc (.cells #[.int .i64 (el l k).1,.int .i64 (el l k).2.1] 167)).drew (w.heap.size+1) k (seenB l k):=((hS.out.kept (World.grownBy_alloc wr _ none) (by simp)).kept (World.grownBy_alloc _ _ none) (by simp)).drew;have l0:=SU.look wx wy
   obtain⟨v0,st,w1,w2,e1,gr1,e2,gr2,S2⟩:=SU.entry (by omega) wx wy (seenB l k (el l k).1 (el l k).2.1+1) (by rcases jje6 l k (el l k).1 (el l k).2.1 with h | h<;>rw [h]<;>decide)
   have S1:=SU.half (by omega) wx wy e1;have l1:=S1.look wx wy;have l2:=S2.look wx wy;simp only[and_self,if_true]at l2;simp only[goInt]at e1 e2;have hml:=hS.out.lt;have hP:=Blk.made (wr.alloc (.cells #[.int .i64 (el l k).1,.int .i64 (el l k).2.1,.int .i64 (el l k).2.2.1,.int .i64 (el l k).2.2.2] 56)) #[.int .i64 (el l k).1,.int .i64 (el l k).2.1] 167;simp only[World.size_alloc]at hP
   have hP2:Blk w2 (wr.heap.size+1) #[.int .i64 (el l k).1,.int .i64 (el l k).2.1] 167:=(hP.drew).grown gr2 (by simp;omega);have q0:=hP2.cell 0 (v:= .int .i64 (el l k).1) rfl;have q1:=hP2.cell 1 (v:= .int .i64 (el l k).2.1) rfl;have HB2:Hid (Below w.heap.size w w2):=by
    show Below _ _ _;exact((hb.out.alloc hb.out.size _).alloc (by have h:=hb.out.size;simp;omega) _).drew.grown gr2 (by have h:=hb.out.size;show _≤((wr.alloc (.cells #[.int .i64 (el l k).1,.int .i64 (el l k).2.1,.int .i64 (el l k).2.2.1,.int .i64 (el l k).2.2.2] 56)).alloc (.cells #[.int .i64 (el l k).1,.int .i64 (el l k).2.1] 167)).heap.size;simp;omega) (fun j hj=>by cases hj;omega)
   have hSE:∀ x y,(if x=(el l k).1∧y=(el l k).2.1 then seenB l k (el l k).1 (el l k).2.1+1 else seenB l k x y)=(if x=(el l k).1∧y=(el l k).2.1 then seenB l k (el l k).1 (el l k).2.1+1 else seenB l k x y):=fun _ _=>rfl
   clear hSE;rcases jje6 l k (el l k).1 (el l k).2.1 with hc | hc
   ·obtain ⟨j,hj,e3,e4⟩:=seenB_one.1 hc
    have HO:Hid (false=r):=by
     show _=_;rw[← HR.out];rcases jjam (onceB l)with hq | hq
     ·have h1:=onceB_iff.1 hq k (by rw[HN.out];exact hlt) j hj
      have h2:pairB (el l k) (el l j)=true:=pairB_iff.2 ⟨e3.symm,e4.symm⟩;rw[h2]at h1;cases h1
     ·exact hq.symm
    rw[hc]at l0 l1 l2 e2;simp only[Int.reduceAdd]at l2 e2;clear e3 e4 hc S1 S2 SU hP hP2 gr1 gr2 hok hS;generalize el l k=p at *;obtain⟨p0,p1,p2,p3⟩:=p
    simp only at *;go_wp2;go_region
    all_goals go_wp2
    all_goals go_ret
    all_goals exact⟨jjar HO.out,HB2.out⟩
   ·have HO:Hid (∀ i,i<k+1→∀ j,j<i→pairB (el l i) (el l j)=false):=onceTo_snoc hok.out (fun j hj=>by
     rcases jjam (pairB (el l k) (el l j))with h | h
     ·have h2:=pairB_iff.1 h
      have h3:=seenB_one.2 ⟨j,hj,h2.1.symm,h2.2.symm⟩
      rw[hc]at h3
      cases h3
     ·exact h)
    have HS2:Hid (Seen w2 (w.heap.size+1) (k+1) (seenB l (k+1))):=by
     obtain⟨D,d1,d2⟩:=S2
     refine⟨D,d1,fun x y kl hk=>?_⟩
     rw[d2 x y kl hk,seenB_succ,hc];rfl
    rw[hc]at l0 l1 l2 e2;simp only[Int.reduceAdd]at l2 e2;clear hc S1 S2 SU hP hP2 gr1 gr2 hok hS;generalize el l k=p at g0 g1 g2 g3 l0 l1 l2 e1 e2 q0 q1 wx wy;obtain⟨p0,p1,p2,p3⟩:=p
    simp only at g0 g1 g2 g3 l0 l1 l2 e1 e2 q0 q1 wx wy;go_wp2;go_region
    all_goals go_wp2
    all_goals go_roundw
    all_goals first
     | exact⟨k+1,by omega,by go_num,HO,HS2,HB2⟩
     | (simp[intOf];omega)
  ·have hke:k=n:=by omega
   have HO:Hid (true=r):=by show _=_;rw[← HR.out];exact(onceB_iff.2 (fun i hi j hj=>hok.out i (by rw[hke,← HN.out];exact hi) j hj)).symm
   have hnl:¬ (k:Int)<(n:Int):=by omega
   clear hke hok hlt;go_wp2;go_ret;exact⟨jjar HO.out,hb.out⟩
end Go.Proofs.YtppkiejhhmahcaaGreatDoor.Wt
