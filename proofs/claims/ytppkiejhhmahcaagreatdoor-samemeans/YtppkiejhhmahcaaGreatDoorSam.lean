/- Facts, joined. -/
import Derived.Test.YtppkiejhhmahcaaGreatDoorSal
set_option linter.unusedSimpArgs false
set_option linter.unusedVariables false
set_option maxRecDepth 100000
namespace Go.Proofs.YtppkiejhhmahcaaGreatDoor.Wt
open ChangeShapes WideShapes ChangeAt RowKit Maps Pl
abbrev K3 :=Int × Int × Int
def ky3 (a:Ar):K3:=(a.1,a.2.1,a.2.2.2)
def k3V (k:K3):Value:= .agg #[.int .i64 k.1,.int .i64 k.2.1,.int .i64 k.2.2]
theorem lawAlK :Go.WideMaps.KeyLaw Tryz.prog 164:=Go.deep_law (m:=2) (by omega) (by kernel_rfl) (by kernel_rfl) (by kernel_rfl)
theorem lawAl :Keyed Tryz.prog 164:=Keyed.of_law lawAlK
def Sm3 (k:K3):Prop:=0≤k.1∧k.1≤1000∧0≤k.2.1∧k.2.1≤1000∧0≤k.2.2∧k.2.2≤1000
theorem wfSmI {n:Int}(h0:0≤n)(h:n≤100000000000000):(Lit.int .i64 n).wf=true:=by
 simp[Lit.wf,IntKind.min,IntKind.max,IntKind.signed,IntKind.bits];omega
theorem key3 {p:K3}(h:Sm3 p):∃ kl,keyOf Tryz.prog 164 (k3V p)=some kl:=by
 obtain⟨h1,h2,h3,h4,h5,h6⟩:=h
 have w1:(Lit.int .i64 p.1).wf=true:=wfSmI h1 (by omega);have w2:(Lit.int .i64 p.2.1).wf=true:=wfSmI h3 (by omega);have w3:(Lit.int .i64 p.2.2).wf=true:=wfSmI h5 (by omega);unfold k3V;generalize p.1=x at *;generalize p.2.1=y at *;generalize p.2.2=z at *;have h1:Tryz.prog.keyType 164=true:=by kernel_rfl
 have hc:Tryz.prog.cellsOf 164=3:=by kernel_rfl
 have hi:Tryz.prog.cellsOf 3=1:=by kernel_rfl
 have h2:(Value.agg #[.int .i64 x,.int .i64 y,.int .i64 z]).formed Tryz.prog 164=true:=by simp[Value.formed,Tryz.underlying164,hc]
 obtain⟨n,hn⟩:∃ n,Tryz.prog.types.size+1=n+1+1:=⟨Tryz.prog.types.size-1,by kernel_rfl⟩
 have h3:Tryz.prog.keyLits (Tryz.prog.types.size+1) 164 [.int .i64 x,.int .i64 y,.int .i64 z]=some [.int .i64 x,.int .i64 y,.int .i64 z]:=by
  rw[hn];have e3:List.range 3=[0,1,2]:=rfl;simp[Program.keyLits,Tryz.underlying164,Tryz.underlying3,hc,hi,w1,w2,w3,e3]
 refine⟨.string (keyBytes [.int .i64 x,.int .i64 y,.int .i64 z]),?_⟩
 unfold keyOf;rw[Tryz.underlying164];simp only[h1,h2,Bool.and_self,if_true,Value.cells,h3,Option.map_some]
theorem k3V_one {p q:K3}(h:k3V p=k3V q):p=q:=by
 obtain⟨a,b,c⟩:=p
 obtain⟨a',b',c'⟩:=q
 simp[k3V]at h;simp only[Prod.mk.injEq];omega
theorem key3_inj {p q:K3}{kl:Lit}(h:keyOf Tryz.prog 164 (k3V p)=some kl)(h':keyOf Tryz.prog 164 (k3V q)=some kl):p=q:=k3V_one (lawAl.inj h h')
def PlcM (w:World)(m:Nat)(ks:List K3):Prop:=
  ∃ D:DataW Unit,w.ownsMap Tryz.prog 164 (plainElem Tryz.prog 3) m ks.length D∧Maps.size D=ks.length∧
    ∀ p kl,keyOf Tryz.prog 164 (k3V p)=some kl→(∀ i,i<ks.length→el ks i=p→has D kl=true∧D.atKey kl (.lit (.int .i64 0))= .lit (.int .i64 (i:Int)))∧(p ∉ ks→has D kl=false∧D.atKey kl (.lit (.int .i64 0))= .lit (.int .i64 0))
theorem PlcM.lt {w:World}{m:Nat}{ks:List K3}(h:PlcM w m ks):m<w.heap.size:=by obtain⟨D,h,_⟩:=h;exact h.lt
theorem PlcM.made (w:World):PlcM (w.alloc (.map #[] 0)) w.heap.size []:=
 ⟨_,World.ownsMap_made w _ _ _,rfl,fun p kl h=>⟨fun i hi=>absurd hi (by simp),fun _=>⟨rfl,by simp[DataW.atKey]⟩⟩⟩
theorem PlcM.keep {w w':World}{m:Nat}{ks:List K3}(h:PlcM w m ks)(e:w'.heap[m]? =w.heap[m]?):PlcM w' m ks:=by
 obtain⟨D,⟨es,clock,hb,h0⟩,h1⟩:=h
 exact⟨D,⟨es,clock,e.trans hb,h0⟩,h1⟩
theorem PlcM.neBlk {w:World}{m b:Nat}{ks:List K3}(h:PlcM w m ks){cs:Array Value}{t:TypeId}(hb:Blk w b cs t):m≠b:=by
 obtain⟨D,h,_⟩:=h
 exact Ne.symm (map_ne_blk hb h)
theorem PlcM.neRow {w:World}{m base:Nat}{ks:List K3}{e:TypeId}{s:Nat}{v:Value}{n:Nat}{xs:List Value}(h:PlcM w m ks)(ho:w.ownsRow base e s v n xs):some m≠v.ownBlock:=by
 obtain⟨D,⟨es,clock,hb,_⟩,_⟩:=h
 rcases ho.2 with⟨rfl,_⟩ | ⟨g,cap',cur,rfl,hbg,hg,_⟩
 ·simp [Value.ownBlock]
 ·simp only[Value.ownBlock]
  intro e2;simp at e2;subst e2;rw[hb]at hg;cases hg
theorem zero3 (w:World):(zeroValue 3).run Tryz.prog w= .ok (.int .i64 0) w:=by kernel_rfl
theorem PlcM.look {w:World}{m:Nat}{ks:List K3}(h:PlcM w m ks){p:K3}(hp:Sm3 p):
  (∃ i,i<ks.length∧el ks i=p∧(Instr.lookup 128 (.map (some m)) (.agg #[.int .i64 p.1,.int .i64 p.2.1,.int .i64 p.2.2]) true).run Tryz.prog w= .ok (.tuple #[.int .i64 (i:Int),.bool true]) w)∨
  (p ∉ ks∧(Instr.lookup 128 (.map (some m)) (.agg #[.int .i64 p.1,.int .i64 p.2.1,.int .i64 p.2.2]) true).run Tryz.prog w= .ok (.tuple #[.int .i64 0,.bool false]) w):=by
 obtain⟨D,h1,_,h3⟩:=h
 obtain⟨kl,hk⟩:=key3 hp
 obtain⟨v,ps,hr,hv⟩:=World.ownsMap.look_ok h1 lawAl Tryz.underlying128 (zero3 w) (plainElem_int Tryz.underlying3 (by decide)) hk
 obtain⟨c,rfl,hc,_⟩:=plainElem_int_inv Tryz.underlying3 hv
 have hc':=congrArg Prod.fst hc;simp only at hc';obtain⟨g1,g2⟩:=h3 p kl hk
 by_cases he:p ∈ ks
 ·obtain ⟨i,hi,hd⟩:=jja1 he
  obtain⟨k1,k2⟩:=g1 i hi hd
  left
  refine⟨i,hi,hd,?_⟩
  rw[k2]at hc';rw[k1]at hr;injection hc' with e1
  injection e1 with _ e2
  rw[← e2]at hr;exact hr
 ·right
  rw[(g2 he).1]at hr;rw[(g2 he).2]at hc';injection hc' with e1
  injection e1 with _ e2
  rw[← e2]at hr;exact⟨he,hr⟩
theorem PlcM.put {w:World}{m:Nat}{ks:List K3}(h:PlcM w m ks){p:K3}(hp:Sm3 p)(hno:p ∉ ks)(hn:ks.length<100000):
  ∃ w',(Instr.mapUpdate 128 (.map (some m)) (.agg #[.int .i64 p.1,.int .i64 p.2.1,.int .i64 p.2.2]) (.int .i64 (ks.length:Int))).run Tryz.prog w= .ok () w'∧PlcM w' m (ks++[p])∧w.grownBy w' (some m):=by
 obtain⟨D,h1,h2,h3⟩:=h
 obtain⟨kl,hk⟩:=key3 hp
 obtain⟨w',hu,ho,hg⟩:=World.ownsMap.update (R:=plainElem Tryz.prog 3) h1 lawAl Tryz.underlying128 (by unfold maxLen;omega) hk (plainElem_int Tryz.underlying3 (wfSmI (n:=(ks.length:Int)) (by omega) (by omega)))
 refine⟨w',hu,⟨_,by rw[List.length_append];exact ho,?_,fun q kl' hk'=>?_⟩,hg⟩
 ·rw [size_put (h1.tidy lawAl),((h3 p kl hk).2 hno).1,h2]
  simp
 ·by_cases e:q=p
  ·subst e
   have:kl'=kl:=by rw[hk]at hk';injection hk' with h;exact h.symm
   subst this;refine⟨fun i hi hd=>⟨has_put_same h1.isMap (lawAl.key hk) _,?_⟩,fun hq=>absurd (List.mem_append_right _ List.mem_cons_self) hq⟩
   rw[atKey_put_same h1.isMap (lawAl.key hk)];rw[List.length_append]at hi;simp at hi;by_cases ei:i<ks.length
   ·rw [jjbc ei]at hd
    exact absurd (hd▸jjac ei) hno
   ·obtain rfl:i=ks.length:=by omega
    rfl
  ·have hne:kl'≠kl:=fun h=>by
    subst h;exact e (key3_inj hk' hk)
   obtain⟨g1,g2⟩:=h3 q kl' hk'
   refine⟨fun i hi hd=>?_,fun hq=>?_⟩
   ·rw [List.length_append]at hi
    simp at hi;by_cases ei:i<ks.length
    ·rw [jjbc ei]at hd
     obtain⟨k1,k2⟩:=g1 i ei hd
     exact⟨(has_put_other hne _).trans k1,(atKey_put_other hne _ _).trans k2⟩
    ·obtain rfl:i=ks.length:=by omega
     rw[jjbu]at hd;exact absurd hd.symm e
   ·obtain ⟨k1,k2⟩:=g2 fun hd=>hq (List.mem_append_left _ hd)
    exact⟨(has_put_other hne _).trans k1,(atKey_put_other hne _ _).trans k2⟩
def LigM (w:World)(base b:Nat)(L:List Ar):Prop:=∃ va mb,Blk w b #[va,.map (some mb)] 130∧OwnArcs w base va L∧PlcM w mb (L.map ky3)∧base≤b∧base≤mb
theorem LigM.later {w w':World}{base b:Nat}{L:List Ar}(h:LigM w base b L)(hb:Below w.heap.size w w'):LigM w' base b L:=by
 obtain⟨va,mb,h1,h2,h3,h4⟩:=h
 exact⟨va,mb,h1.below hb h1.lt,h2.later hb,h3.keep (hb.block _ h3.lt),h4⟩
theorem LigM.lt {w:World}{base b:Nat}{L:List Ar}(h:LigM w base b L):base<w.heap.size:=by
 obtain⟨va,mb,h1,h2,h3,h4,h5⟩:=h
 have:=h1.lt
 have:=h3.lt
 have:=h3.neBlk h1;omega
theorem set_wgt {xs:List Ar}{k:Nat}(hk:k<xs.length)(y:Int):(xs.flatMap encA).set (k*4+2) (.int .i64 y)=(xs.set k ((el xs k).1,(el xs k).2.1,y,(el xs k).2.2.2)).flatMap encA:=by
 apply List.ext_getElem?
 intro t;have hl:(xs.flatMap encA).length=xs.length*4:=jjai jjah xs;by_cases ht:t<xs.length*4
 ·have he:t / 4*4+t % 4=t:=by omega
  have h1:=jjas jjah xs (t / 4) (by omega) (t % 4) (by omega);have h2:=jjas jjah (xs.set k ((el xs k).1,(el xs k).2.1,y,(el xs k).2.2.2)) (t / 4) (by simp;omega) (t % 4) (by omega);rw[he]at h1 h2;rw[List.getElem?_set,h1,h2,hl];by_cases hq:t / 4=k
  ·have hel:el (xs.set k ((el xs k).1,(el xs k).2.1,y,(el xs k).2.2.2)) (t / 4)=((el xs k).1,(el xs k).2.1,y,(el xs k).2.2.2):=by rw[hq,jjaj (by simpa using hk)];simp
   rw[hel,hq];have h01:t % 4=0∨t % 4=1∨t % 4=2∨t % 4=3:=by omega
   rcases h01 with h | h | h | h
   ·rw [if_neg (by omega),h];rfl
   ·rw [if_neg (by omega),h];rfl
   ·rw [if_pos (by omega),if_pos (by omega),h];rfl
   ·rw [if_neg (by omega),h];rfl
  ·have hel:el (xs.set k ((el xs k).1,(el xs k).2.1,y,(el xs k).2.2.2)) (t / 4)=el xs (t / 4):=by simp[el,List.getElem?_set_ne (Ne.symm hq)]
   rw[hel,if_neg (by omega)]
 ·rw [List.getElem?_eq_none (by rw[List.length_set,hl];omega),List.getElem?_eq_none (by rw[jjai jjah];simp;omega)]
theorem OwnArcs.setW2 {w:World}{base g n cap j:Nat}{ws:List Ar}(h:OwnArcs w base (.slice (some ⟨g,0,none⟩) n cap) ws)(hj:j<ws.length)(y:Int):
  OwnArcs (w.setCell ⟨g,j*4+2,none⟩ (.int .i64 y)) base (.slice (some ⟨g,0,none⟩) n cap) (ws.set j ((el ws j).1,(el ws j).2.1,y,(el ws j).2.2.2)):=by
 unfold OwnArcs at h ⊢;have hlen:=h.1;rw[List.length_set];rcases h.2 with⟨hv,hn0⟩ | ⟨g',cap',cur,hv,hbg,hg,hnc,hcm,hcs,htake⟩
 ·simp at hv
 ·simp only[Value.slice.injEq,Option.some.injEq,Addr.mk.injEq,and_true,true_and]at hv
  obtain⟨rfl,hn,rfl⟩:=hv
  have hB:Blk w g cur 56:=hg;refine⟨by rw[jjai jjah,List.length_set],.inr ⟨g,cap,cur.setIfInBounds (j*4+2) (.int .i64 y),by rw[hn],hbg,hB.set _ _,hnc,hcm,by simpa using hcs,?_⟩⟩
  rw[Array.toList_setIfInBounds,List.take_set,htake];exact set_wgt hj y
theorem jjfo (w:World):Calls Tryz.prog 92 #[] w fun e w'=>e= .returned (.pointer (some ⟨w.heap.size+1,0,none⟩))∧LigM w' w.heap.size (w.heap.size+1) []∧Below w.heap.size w w':=by
 have HM:=hidP (PlcM.made w);have hmm:(Instr.makeMap 128 none).run Tryz.prog w= .ok (.map (some w.heap.size)) (w.alloc (.map #[] 0)):=by
  simp[Instr.makeMap,run_underlying Tryz.underlying128]
 go_enter Tryz.func92,Tryz.ntmps92;go_wp2;go_ret;refine⟨rfl,⟨.slice none 0 0,w.heap.size,?_,OwnArcs.nil _ _,HM.out.keep (Below.heap_alloc _ _ _ (by simp)),by omega,Nat.le_refl _⟩,by go_grown⟩
 have:=Blk.made (w.alloc (.map #[] 0)) #[.slice none 0 0,.map (some w.heap.size)] 130;rw[World.size_alloc]at this;exact this
end Go.Proofs.YtppkiejhhmahcaaGreatDoor.Wt
