/- Facts, joined. -/
import Derived.WalkKit
import Derived.Test.YtppkiejhhmahcaaGreatDoorRows
import Derived.ProofKit
import Derived.OpenShut
import Derived.Below
import Derived.SizedLaws
import Derived.Handy
import Derived.Laws.AppendOwnNone
import Derived.Deep.AppendLies
import Derived.BigQuiet
import Derived.Deep.QuietTactic
import Derived.WalkSmall
import Derived.Deep.Slices
import Derived.Deep.Fields
set_option linter.unusedVariables false
namespace Go.Proofs.YtppkiejhhmahcaaGreatDoor.Pl
abbrev Ar :=Int × Int × Int × Int
abbrev St :=Int × List Ar
abbrev Mc :=Int × List St
def el {α:Type}[Inhabited α](l:List α)(j:Nat):α:=l[j]?.getD default
section
variable {α:Type} [Inhabited α]
theorem jjaj {l:List α}{j:Nat}(h:j<l.length):el l j=l[j]:=by simp[el,h]
theorem jjbj (a:α)(l:List α):el (a::l) 0=a:=rfl
theorem jjbt (a:α)(l:List α)(j:Nat):el (a::l) (j+1)=el l j:=by simp[el]
theorem jjac {l:List α}{j:Nat}(h:j<l.length):el l j ∈ l:=by rw[jjaj h];exact List.getElem_mem h
theorem jja1 {l:List α}{a:α}(h:a ∈ l):∃ j,j<l.length∧el l j=a:=by
 obtain⟨j,hj,e⟩:=List.mem_iff_getElem.1 h
 exact⟨j,hj,by rw[jjaj hj];exact e⟩
theorem jja0 {l:List α}{k:Nat}(h:k<l.length):l.take (k+1)=l.take k++[el l k]:=by
 rw[List.take_succ_eq_append_getElem h,jjaj h]
theorem jjbc {l r:List α}{j:Nat}(h:j<l.length):el (l++r) j=el l j:=by simp[el,List.getElem?_append_left h]
theorem el_right {l r:List α}{j:Nat}(h:l.length≤j):el (l++r) j=el r (j-l.length):=by simp[el,List.getElem?_append_right h]
theorem jjbu (l:List α)(a:α):el (l++[a]) l.length=a:=by simp[el]
theorem el_take {l:List α}{j k:Nat}(h:j<k):el (l.take k) j=el l j:=by simp[el,h]
theorem jja2 {β:Type}[Inhabited β]{l:List α}{j:Nat}(h:j<l.length)(f:α→β):el (l.map f) j=f (el l j):=by simp[el,h]
theorem jjan (f:Nat→α){n j:Nat}(h:j<n):el ((List.range n).map f) j=f j:=by simp[el,h]
theorem jjc2 {l r:List α}(hl:l.length=r.length)(h:∀ j,j<l.length→el l j=el r j):l=r:=by
 apply List.ext_getElem hl
 intro j h1 h2
 have:=h j h1;rwa [jjaj h1,jjaj h2]at this
theorem jjds {l:List α}{k:Nat}(h:k<l.length)(p:α→Bool):(l.take (k+1)).all p=((l.take k).all p&&p (el l k)):=by
 rw[jja0 h];simp
theorem jjc3 {l:List α}{k:Nat}(h:k<l.length){p:α→Bool}(hp:p (el l k)=false):l.all p=false:=by
 rw[List.all_eq_false];exact⟨el l k,jjac h,by simp[hp]⟩
end
def arcN :List St→Nat
 | []=>0
 | s::l=>s.2.length+arcN l
theorem jjbd (a b:List St):arcN (a++b)=arcN a+arcN b:=by
 induction a with
 | nil=>simp [arcN]
 | cons s l ih=>simp [arcN,ih];omega
theorem jjbf {l:List St}{k:Nat}(h:k<l.length):arcN (l.take (k+1))=arcN (l.take k)+(el l k).2.length:=by
 rw[jja0 h,jjbd];simp[arcN]
theorem arcN_le {l:List St}{R:Nat}(h:∀ j,j<l.length→(el l j).2.length≤R):arcN l≤l.length*R:=by
  induction l with
  | nil=>simp [arcN]
  | cons s l ih=>
    have h0:=h 0 (by simp);rw[jjbj]at h0
    have:=ih (fun j hj=>by have:=h (j+1) (by simpa using hj);rwa [jjbt]at this);simp only[arcN,List.length_cons,Nat.add_mul,Nat.one_mul];omega
theorem arcN_take_le {l:List St}{R:Nat}(h:∀ j,j<l.length→(el l j).2.length≤R)(k:Nat):arcN (l.take k)≤l.length*R:=by
 refine Nat.le_trans (arcN_le (l:=l.take k) (R:=R) fun j hj=>?_) (Nat.mul_le_mul_right _ (by simp;omega))
 rw[List.length_take]at hj;rw[el_take (by omega)];exact h j (by omega)
def inB (n a b:Int):Bool:=decide (a≤n)&&decide (n≤b)
def finB (n:Int):Bool:=decide (n=1000000001)||inB n 0 1000000000
def arcB (n:Nat)(a:Ar):Bool:=inB a.1 0 1000&&inB a.2.1 0 1000&&inB a.2.2.1 0 1000000000&&inB a.2.2.2 0 ((n:Int)-1)
def stB (n:Nat)(s:St):Bool:=finB s.1&&s.2.all (arcB n)
def sizeB (m:Mc):Bool:=decide (m.2.length≤60)&&decide (arcN m.2≤400)
def rangeB (m:Mc):Bool:=inB m.1 (-1) ((m.2.length:Int)-1)&&m.2.all (stB m.2.length)
def faultM (m:Mc):Int:=if sizeB m=true then(if rangeB m=true then 0 else 2) else 1
theorem jjfd {m:Mc}(h:sizeB m=false):faultM m=1:=by simp[faultM,h]
theorem jjb4 {m:Mc}(h:sizeB m=true)(g:rangeB m=true):faultM m=0:=by simp[faultM,h,g]
theorem jjax {m:Mc}(h:faultM m=0):sizeB m=true∧rangeB m=true:=by
 unfold faultM at h;split at h
 ·rename_i h1
  split at h
  ·rename_i h2;exact⟨h1,h2⟩
  ·simp at h
 ·simp at h
theorem jjam (b:Bool):b=true∨b=false:=by cases b<;>simp
theorem okM_arcs {l:List St}(h:l.length*32≤140737488351232∧∀ j,j<l.length→(el l j).2.length*32≤140737488351232)(h60:l.length≤60)(k:Nat):arcN (l.take k)≤60*4398046511104:=by
 have h1:=arcN_take_le (l:=l) (R:=4398046511104) (fun j hj=>by have:=h.2 j hj;omega) k;exact Nat.le_trans h1 (Nat.mul_le_mul_right _ h60)
theorem jjar {a b:Bool}(h:a=b):Ending.returned (.bool a)= .returned (.bool b):=by rw[h]
theorem jja8 {k:IntKind}{a b:Int}(h:a=b):Ending.returned (.int k a)= .returned (.int k b):=by rw[h]
theorem jjbv {z:Int}{l:List St}(h:faultM (z,l)=0){j:Nat}(hj:j<l.length):finB (el l j).1=true∧(el l j).2.all (arcB l.length)=true:=by
 have h1:=(jjax h).2;simp only[rangeB,Bool.and_eq_true,List.all_eq_true]at h1;have h2:=h1.2 _ (jjac hj);simpa [stB] using h2
theorem jjae {z:Int}{l:List St}(h:faultM (z,l)=0):l.length≤60∧arcN l≤400:=by
 have h1:=(jjax h).1;simpa [sizeB] using h1
def okM (m:Mc):Prop:=m.2.length*32≤140737488351232∧∀ j,j<m.2.length→(el m.2 j).2.length*32≤140737488351232
end Pl
namespace Wt
open ChangeShapes WideShapes ChangeAt RowKit Pl
theorem jjai {α:Type}{k:Nat}{enc:α→List Value}(hk:∀ x,(enc x).length=k)(xs:List α):(xs.flatMap enc).length=xs.length*k:=by
 induction xs with
 | nil=>simp
 | cons p l ih=>simp [ih,hk,Nat.add_mul];omega
section
variable {α:Type} [Inhabited α] {k:Nat} {enc:α→List Value} {w w':World} {v:Value} {xs:List α}
def Row (k:Nat)(enc:α→List Value)(w:World)(v:Value)(xs:List α):Prop:=
 (v= .slice none 0 0∧xs=[])∨
 ∃ (x:Addr) (cap:Nat),v= .slice (some x) xs.length cap∧∀ j,j<xs.length→∀ (i:Nat) u,(enc (el xs j))[i]? =some u→w.cell? (x.add (j*k+i))=some u
theorem Row.later (h:Row k enc w v xs){B:Nat}(hb:Below B w w')(hB:w.heap.size≤B):Row k enc w' v xs:=by
 rcases h with h | ⟨x,cap,hv,hc⟩
 ·exact .inl h
 ·exact .inr ⟨x,cap,hv,fun j hj i u hu=>(hb.cell (Nat.lt_of_lt_of_le (World.block_lt_of_cell? _ _ (hc j hj i u hu)) hB)).trans (hc j hj i u hu)⟩
theorem Row.plain (h:Row k enc w v xs)(he:∀ x,0<(enc x).length)(hz:0<xs.length):
  ∃ b off cap,v= .slice (some ⟨b,off,none⟩) xs.length cap∧b<w.heap.size∧∀ j,j<xs.length→∀ (i:Nat) u,(enc (el xs j))[i]? =some u→w.cell? ⟨b,off+j*k+i,none⟩=some u:=by
 rcases h with⟨_,rfl⟩ | ⟨x,cap,hv,hc⟩
 ·simp at hz
 ·obtain ⟨b,off,spot⟩:=x
  have h0:=hc 0 hz 0 _ (List.getElem?_eq_getElem (he (el xs 0)));have hs:spot=none:=by simpa [Addr.add] using World.cell?_spot h0
  subst hs;refine⟨b,off,cap,hv,by have h1:=World.block_lt_of_cell? _ _ h0;rw[Addr.add_lit]at h1;exact h1,fun j hj i u hu=>?_⟩
  have:=hc j hj i u hu;rw[Addr.add_lit,← Nat.add_assoc]at this;exact this
theorem Row.sl (h:Row k enc w v xs):∃ a cap,v= .slice a xs.length cap:=by
 rcases h with⟨h,rfl⟩ | ⟨x,cap,hv,_⟩
 ·exact ⟨_,_,h⟩
 ·exact ⟨_,_,hv⟩
theorem jjas (hk:∀ x,(enc x).length=k)(xs:List α):∀ j,j<xs.length→∀ i,i<k→(xs.flatMap enc)[j*k+i]? =(enc (el xs j))[i]?:=by
  induction xs with
  | nil=>intro j h;simp at h
  | cons p l ih=>
    intro j hj i hi;cases j with
    | zero=>
      rw[jjbj,List.flatMap_cons,Nat.zero_mul,Nat.zero_add,List.getElem?_append_left (by rw[hk];exact hi)]
    | succ j=>
      have:=ih j (by simpa using hj) i hi;rw[jjbt,List.flatMap_cons,List.getElem?_append_right (by rw[hk,Nat.add_mul];omega),← this,hk];congr 1
      rw[Nat.add_mul];omega
theorem Row.ofOwn (hk:∀ x,(enc x).length=k){base:Nat}{e:TypeId}{n:Nat}(h:w.ownsRow base e k v n (xs.flatMap enc))(hn:xs.length=n):Row k enc w v xs:=by
 have hh:=h;rcases h.2 with⟨hv,hn0⟩ | ⟨g,cap,cur,hv,_⟩
 ·exact .inl ⟨hv,List.eq_nil_of_length_eq_zero (by omega)⟩
 ·refine .inr ⟨⟨g,0,none⟩,cap,by rw[hn];exact hv,fun j hj i u hu=>?_⟩
  have hg:v.ownBlock=some g:=by rw[hv];rfl
  have hi:i<k:=by
   rcases Nat.lt_or_ge i k with h | h
   ·exact h
   ·rw [List.getElem?_eq_none (by rw[hk];exact h)]at hu;simp at hu
  exact hh.cells hg _ _ ((jjas hk xs j hj i hi).trans hu)
end
theorem jjcv {w:World}{base:Nat}{e:TypeId}{s:Nat}{v:Value}{n:Nat}{xs:List Value}(h:w.ownsRow base e s v n xs):∀ k,v.ownBlock=some k→base≤k:=fun k hk=>(h.lt k hk).1
theorem jjcm {w:World}{b1 b2:Nat}{e1 e2:TypeId}{s1 s2:Nat}{v1 v2:Value}{n1 n2:Nat}{xs1 xs2:List Value}(h1:w.ownsRow b1 e1 s1 v1 n1 xs1)(h2:w.ownsRow b2 e2 s2 v2 n2 xs2)(hne:e1≠e2):v1.ownBlock=none∨v1.ownBlock≠v2.ownBlock:=by
 rcases h1.2 with⟨hv,_⟩ | ⟨g,cap,cur,hv,_,hg,_⟩
 ·left;rw[hv];rfl
 ·right
  rcases h2.2 with⟨hv2,_⟩ | ⟨g2,cap2,cur2,hv2,_,hg2,_⟩
  ·rw [hv,hv2];simp[Value.ownBlock]
  ·rw [hv,hv2]
   intro e;simp[Value.ownBlock]at e;rw[e,hg2]at hg;injection hg with hg
   injection hg with _ hg _
   exact hne hg.symm
section
variable {α:Type} [Inhabited α] {k:Nat} {enc:α→List Value}
theorem row_news (hk:∀ x,(enc x).length=k)(hk0:0<k){w:World}{ad:Addr}{ns:List α}(hc:∀ j,j<ns.length→∀ (i:Nat) u,(enc (el ns j))[i]? =some u→w.cell? (ad.add (j*k+i))=some u):
  ∀ j u,(ns.flatMap enc)[j]? =some u→w.cell? (ad.add j)=some u:=by
 intro j u hj;have hl:j<ns.length*k:=by
  rcases Nat.lt_or_ge j (ns.length*k)with h | h
  ·exact h
  ·rw [List.getElem?_eq_none (by rw[jjai hk];exact h)]at hj;simp at hj
 have hq:j / k<ns.length:=(Nat.div_lt_iff_lt_mul hk0).2 hl;have hm:j % k<k:=Nat.mod_lt _ hk0;have he:j / k*k+j % k=j:=by rw[Nat.mul_comm];exact Nat.div_add_mod j k
 have h1:=hc (j / k) hq (j % k) u;have h2:=jjas hk ns (j / k) hq (j % k) hm;rw[he]at h1 h2;exact h1 (h2▸hj)
theorem jjbw {P:Program}{w:World}(hk:∀ x,(enc x).length=k)(hk0:0<k)(h1c:∀ x,∀ u ∈ enc x,u.oneCell'=true)(t ty:TypeId)
  (base:Nat) (e:TypeId) (i:TypeInfo) (z:Value) (bytes:Nat) (ht:P.underlying t=some (.slice e)) (hi:P.info? e=some i) (hz:i.zero=some z)
  (hsize:i.size=k) (hby:i.bytes=bytes) (hzs:z.cells.size=k)
  (v:Value) (n:Nat) (ms:List Value) (hown:w.ownsRow base e k v n ms) (vx:Value) (ns:List α) (hX:Row k enc w vx ns)
  (h63:n+ns.length≤maxLen) (hbytes:(n+ns.length)*bytes≤140737488355328) (hbase:base≤w.heap.size):
  ∃ v' w',(Builtin.append_ #[t,t] ty #[v,vx]).run P w= .ok v' w'∧w'.ownsRow base e k v' (n+ns.length) (ms++ns.flatMap enc)∧w.grownBy w' v.ownBlock:=by
 rcases hX with⟨hv,hzs0⟩ | ⟨ad,cap,hv,hc⟩
 ·subst hv;subst hzs0
  exact⟨v,w,run_append_owned_none (P:=P) (w:=w) base t ty e i k ht hi v n ms hown,by simpa using hown,World.grownBy.refl _ _⟩
 ·subst hv
  obtain⟨v',w',h1,h2,h3,_⟩:=run_append_own (P:=P) w base t ty e i z k bytes ht hi hz hsize hby hzs hk0 v n ms hown ad ns.length cap (ns.flatMap enc) (jjai hk ns) (row_news hk hk0 hc) (by
   intro u hu
   simp only[List.mem_flatMap]at hu
   obtain⟨y,_,hy⟩:=hu
   exact h1c y u hy) h63 hbytes hbase
  exact⟨v',w',h1,h2,h3⟩
theorem jjfz {P:Program}{w:World}{o:Oper}{a:Act}{K:Act→World→Prop}{Q:Exit→Act→World→Prop}(hk:∀ x,(enc x).length=k)(hk0:0<k)(h1c:∀ x,∀ u ∈ enc x,u.oneCell'=true)(s x:Operand)(t:TypeId)
  (ho:o.op= .call {callee:= .builtin .append,args:=#[s,x],argTypes:=#[t,t]})
  (base:Nat) (e:TypeId) (i:TypeInfo) (z:Value) (bytes:Nat) (ht:P.underlying t=some (.slice e)) (hi:P.info? e=some i) (hz:i.zero=some z)
  (hsize:i.size=k) (hby:i.bytes=bytes) (hzs:z.cells.size=k)
  (v:Value) (n:Nat) (ms:List Value) (hs:a.eval s=v) (hown:w.ownsRow base e k v n ms)
  (vx:Value) (ns:List α) (hx:a.eval x=vx) (hX:Row k enc w vx ns)
  (h63:n+ns.length≤maxLen) (hbytes:(n+ns.length)*bytes≤140737488355328) (hbase:base≤w.heap.size)
  (h:∀ v' w',w'.ownsRow base e k v' (n+ns.length) (ms++ns.flatMap enc)→w.grownBy w' v.ownBlock→K (a.put o.dst v') w'):o.wp P a w K Q:=by
 obtain⟨v',w',hr,h2,h3⟩:=jjbw hk hk0 h1c t o.type base e i z bytes ht hi hz hsize hby hzs v n ms hown vx ns hX h63 hbytes hbase
 unfold Oper.wp execOp;simp only[ho,resolve,invoke,builtin,Sem.run_bind,Sem.run_pure,Result.andThen_ok,List.map_toArray,List.map_cons,List.map_nil,hs,hx,hr];exact h v' w' h2 h3
theorem jjav {P:Program}{w:World}{ops:Array Oper}{rest:List Oper}{o:Oper}{a:Act}{Q:Exit→Act→World→Prop}(hk:∀ x,(enc x).length=k)(hk0:0<k)(h1c:∀ x,∀ u ∈ enc x,u.oneCell'=true)(hgd:o.guard=none)(s x:Operand)(t:TypeId)
  (ho:o.op= .call {callee:= .builtin .append,args:=#[s,x],argTypes:=#[t,t]})
  (base:Nat) (e:TypeId) (i:TypeInfo) (z:Value) (bytes:Nat) (ht:P.underlying t=some (.slice e)) (hi:P.info? e=some i) (hz:i.zero=some z)
  (hsize:i.size=k) (hby:i.bytes=bytes) (hzs:z.cells.size=k)
  (v:Value) (n:Nat) (ms:List Value) (hs:a.eval s=v) (hown:w.ownsRow base e k v n ms)
  (vx:Value) (ns:List α) (hx:a.eval x=vx) (hX:Row k enc w vx ns)
  (h63:n+ns.length≤maxLen) (hbytes:(n+ns.length)*bytes≤140737488355328) (hbase:base≤w.heap.size)
  (h:∀ v' w',w'.ownsRow base e k v' (n+ns.length) (ms++ns.flatMap enc)→w.grownBy w' v.ownBlock→wpList P ops Q rest (a.put o.dst v') w'):wpList P ops Q (o::rest) a w:=
 wpList_plain hgd fun _ hK=>jjfz hk hk0 h1c s x t ho base e i z bytes ht hi hz hsize hby hzs v n ms hs hown vx ns hx hX h63 hbytes hbase fun v' w' h2 h3=>hK _ _ (h v' w' h2 h3)
end
def encA (a:Ar):List Value:=[.int .i64 a.1,.int .i64 a.2.1,.int .i64 a.2.2.1,.int .i64 a.2.2.2]
def encS (s:Int × Value):List Value:=[.int .i64 s.1,s.2]
theorem jjah (a:Ar):(encA a).length=4:=rfl
theorem jja9 (s:Int × Value):(encS s).length=2:=rfl
theorem jjch (a:Ar):∀ u ∈ encA a,u.oneCell'=true:=by
 intro u hu;simp[encA]at hu;obtain rfl | rfl | rfl | rfl:=hu<;>rfl
def Arcs (w:World)(v:Value)(l:List Ar):Prop:=Row 4 encA w v l
theorem Arcs.later {w w':World}{v:Value}{l:List Ar}(h:Arcs w v l){B:Nat}(hb:Below B w w')(hB:w.heap.size≤B):Arcs w' v l:=Row.later h hb hB
theorem Arcs.plain {w:World}{v:Value}{l:List Ar}(h:Arcs w v l)(hz:0<l.length):
    ∃ b off cap,v= .slice (some ⟨b,off,none⟩) l.length cap∧b<w.heap.size∧∀ j,j<l.length→w.cell? ⟨b,off+j*4,none⟩=some (.int .i64 (el l j).1)∧w.cell? ⟨b,off+j*4+1,none⟩=some (.int .i64 (el l j).2.1)∧
      w.cell? ⟨b,off+j*4+2,none⟩=some (.int .i64 (el l j).2.2.1)∧w.cell? ⟨b,off+j*4+3,none⟩=some (.int .i64 (el l j).2.2.2):=by
  obtain⟨b,off,cap,hv,hb,hc⟩:=Row.plain h (fun x=>by rw[jjah];omega) hz
  exact⟨b,off,cap,hv,hb,fun j hj=>⟨hc j hj 0 _ rfl,hc j hj 1 _ rfl,hc j hj 2 _ rfl,hc j hj 3 _ rfl⟩⟩
theorem Arcs.sl {w:World}{v:Value}{l:List Ar}(h:Arcs w v l):∃ a cap,v= .slice a l.length cap:=Row.sl h
theorem Arcs.get {w:World}{v:Value}{l:List Ar}(h:Arcs w v l):∃ a cap,v= .slice a l.length cap∧∀ j,j<l.length→∃ b off,a=some ⟨b,off,none⟩∧b<w.heap.size∧w.cell? ⟨b,off+j*4,none⟩=some (.int .i64 (el l j).1)∧w.cell? ⟨b,off+j*4+1,none⟩=some (.int .i64 (el l j).2.1)∧
   w.cell? ⟨b,off+j*4+2,none⟩=some (.int .i64 (el l j).2.2.1)∧w.cell? ⟨b,off+j*4+3,none⟩=some (.int .i64 (el l j).2.2.2):=by
 by_cases hz:0<l.length
 ·obtain ⟨b,off,cap,hv,hb,hc⟩:=h.plain hz
  exact⟨_,cap,hv,fun j hj=>⟨b,off,rfl,hb,hc j hj⟩⟩
 ·obtain ⟨a,cap,hv⟩:=h.sl
  exact⟨a,cap,hv,fun j hj=>by omega⟩
def Sts (w:World)(v:Value)(l:List St):Prop:=
 ∃ vs:List (Int × Value),Row 2 encS w v vs∧vs.length=l.length∧∀ j,j<l.length→(el vs j).1=(el l j).1∧Arcs w (el vs j).2 (el l j).2
theorem Sts.later {w w':World}{v:Value}{l:List St}(h:Sts w v l){B:Nat}(hb:Below B w w')(hB:w.heap.size≤B):Sts w' v l:=by
 obtain⟨vs,h1,h2,h3⟩:=h
 exact⟨vs,Row.later h1 hb hB,h2,fun j hj=>⟨(h3 j hj).1,(h3 j hj).2.later hb hB⟩⟩
theorem Sts.plain {w:World}{v:Value}{l:List St}(h:Sts w v l)(hz:0<l.length):
  ∃ b off cap,v= .slice (some ⟨b,off,none⟩) l.length cap∧b<w.heap.size∧∀ j,j<l.length→∃ va,w.cell? ⟨b,off+j*2,none⟩=some (.int .i64 (el l j).1)∧w.cell? ⟨b,off+j*2+1,none⟩=some va∧Arcs w va (el l j).2:=by
 obtain⟨vs,h1,h2,h3⟩:=h
 obtain⟨b,off,cap,hv,hb,hc⟩:=Row.plain h1 (fun x=>by rw[jja9];omega) (by omega)
 refine⟨b,off,cap,by rw[← h2];exact hv,hb,fun j hj=>⟨(el vs j).2,?_,hc j (by omega) 1 _ rfl,(h3 j hj).2⟩⟩
 rw[← (h3 j hj).1];exact hc j (by omega) 0 _ rfl
theorem Sts.sl {w:World}{v:Value}{l:List St}(h:Sts w v l):∃ a cap,v= .slice a l.length cap:=by
 obtain⟨vs,h1,h2,h3⟩:=h
 rw[← h2];exact Row.sl h1
theorem Sts.get {w:World}{v:Value}{l:List St}(h:Sts w v l):∃ a cap,v= .slice a l.length cap∧∀ j,j<l.length→∃ b off va,a=some ⟨b,off,none⟩∧b<w.heap.size∧w.cell? ⟨b,off+j*2,none⟩=some (.int .i64 (el l j).1)∧w.cell? ⟨b,off+j*2+1,none⟩=some va∧Arcs w va (el l j).2:=by
 by_cases hz:0<l.length
 ·obtain ⟨b,off,cap,hv,hb,hc⟩:=h.plain hz
  exact⟨_,cap,hv,fun j hj=>by obtain⟨va,h1,h2,h3⟩:=hc j hj;exact⟨b,off,va,rfl,hb,h1,h2,h3⟩⟩
 ·obtain ⟨a,cap,hv⟩:=h.sl
  exact⟨a,cap,hv,fun j hj=>by omega⟩
def Mach (w:World)(v:Value)(m:Mc):Prop:=∃ vs,v= .agg #[.int .i64 m.1,vs]∧Sts w vs m.2
theorem Mach.later {w w':World}{v:Value}{m:Mc}(h:Mach w v m){B:Nat}(hb:Below B w w')(hB:w.heap.size≤B):Mach w' v m:=by
 obtain⟨vs,h1,h2⟩:=h
 exact⟨vs,h1,h2.later hb hB⟩
theorem infoArc :(Tryz.prog.info? 56).map (fun i=>(i.zero,i.size,i.bytes))=some (some (.agg #[.int .i64 0,.int .i64 0,.int .i64 0,.int .i64 0]),4,32):=by kernel_rfl
theorem infoState :(Tryz.prog.info? 45).map (fun i=>(i.zero,i.size,i.bytes))=some (some (.agg #[.int .i64 0,.slice none 0 0]),2,32):=by kernel_rfl
section
variable {H:Type} {enc:TypeId × Value→H} {w:World} {base:Nat} {sp:Nat→Bool} {held:Bool}
theorem open_rows {P:Program}{t e:TypeId}{fs:Array Field}{fuel:Nat}{v:Value}{x:DataW H × List MemPlace}(ht:P.underlying t=some (.slice e))(he:P.underlying e=some (.struct fs))(hone:Go.Deep.oneCellFields P fs=true)(hce:P.cellsOf e=fs.size)
    (h:DataW.trod enc P w base sp held fuel t [v]=some x):
    (v= .slice none 0 0∧x=(.nil,[]))∨
    ∃ (a:Addr) (len cap n:Nat) (V:Nat→Nat→Value) (Y:Nat→Nat→DataW H × List MemPlace) (rest:List (DataW H)),v= .slice (some a) len cap∧cap≤maxLen∧len≤cap∧
      x.1= .slice ((List.range len).map fun i=> .agg ((List.range fs.size).map fun f=>(Y i f).1)) rest∧
      ∀ i,i<len→∀ (f:Nat) fd,fs[f]? =some fd→w.cell? (a.add (i*fs.size+f))=some (V i f)∧DataW.trod enc P w base sp held n fd.type [V i f]=some (Y i f):=by
  rcases Go.Deep.open_slice ht h with⟨hcs,hx⟩ | ⟨a,len,cap,m,n,D,Pl,hcs,hb,hl,hm,hmm,hx,hc⟩
  · left;simp at hcs;exact⟨hcs,hx⟩
  right
  simp at hcs;have hlm:len≤m:=by rw[hmm];split<;>omega
  have each:∀ i,i<len→∃ q:(Nat→Value) × (Nat→DataW H × List MemPlace),D i= .agg ((List.range fs.size).map fun f=>(q.2 f).1)∧∀ (f:Nat) fd,fs[f]? =some fd→w.cell? (a.add (i*fs.size+f))=some (q.1 f)∧DataW.trod enc P w base sp held (n-1) fd.type [q.1 f]=some (q.2 f):=by
    intro i hi;obtain⟨cs',h1,h2⟩:=hc i (by omega)
    rw[hce]at h1;obtain⟨_,hlen,hcell⟩:=World.cells?_some h1
    obtain⟨ys,k,hk,hxy,_,hyl,hf⟩:=DataW.trod_struct he h2
    obtain rfl:k=n-1:=by omega
    refine⟨(fun f=>el cs' f,fun f=>el ys f),?_,?_⟩
    · have h3:=congrArg Prod.fst hxy
      simp only at h3;rw[h3];congr 1
      rw[Go.Deep.map_by_index ys default,hyl];rfl
    · intro f fd hfd
      have hfl:f<fs.size:=by
        rcases Nat.lt_or_ge f fs.size with g | g
        · exact g
        · rw[Array.getElem?_eq_none g]at hfd;cases hfd
      obtain⟨o0,k0⟩:=Go.Deep.hone_of hone f fd hfd
      have g1:=hcell f (by omega);rw[Go.Deep.add_add]at g1;have g2:=hf f fd hfd;rw[o0,k0]at g2;have e1:(cs'.drop f).take 1=[el cs' f]:=by
        rw[List.drop_eq_getElem_cons (by omega),jjaj (by omega)];rfl
      rw[e1]at g2;refine⟨?_,?_⟩
      · show w.cell? _=some (el cs' f)
        rw[g1,List.getElem?_eq_getElem (by omega),jjaj (by omega)]
      · show DataW.trod enc P w base sp held (n-1) fd.type [el cs' f]=some (el ys f)
        rw[g2,List.getElem?_eq_getElem (by omega),jjaj (by omega)]
  obtain⟨q,hq⟩:=Go.Deep.choose_lt each
  refine⟨a,len,cap,n-1,fun i=>(q i).1,fun i=>(q i).2,(List.range (m-len)).map fun j=>D (len+j),hcs,hm,hl,?_,fun i hi=>(hq i hi).2⟩
  rw[hx];simp only;congr 1
  exact List.map_congr_left fun i hi=>(hq i (by simpa using hi)).1
theorem weights_all {P:Program}{e:TypeId}{l:List (DataW H)}{d:DataW H}(h:d ∈ l){n:Nat}(hn:n ∈ d.weights P e):n ∈ DataW.weightsAll P e l:=by
  induction l with
  | nil=>simp at h
  | cons a l ih=>
    simp only[DataW.weightsAll,List.mem_append];rcases List.mem_cons.1 h with rfl | h
    · exact .inl hn
    · exact .inr (ih h)
def Fits (P:Program)(t:TypeId)(d:DataW H):Prop:=∀ n ∈ d.weights P t,n≤reachBytes
theorem Fits.len {P:Program}{t e:TypeId}(ht:P.underlying t=some (.slice e)){xs ys:List (DataW H)}(h:Fits P t (.slice xs ys)):xs.length*P.bytesOf e≤reachBytes:=by
 have:=h ((xs.length+ys.length)*P.bytesOf e) (by simp[DataW.weights,ht]);exact Nat.le_trans (Nat.mul_le_mul_right _ (by omega)) this
theorem Fits.elem {P:Program}{t e:TypeId}(ht:P.underlying t=some (.slice e)){xs ys:List (DataW H)}(h:Fits P t (.slice xs ys)){d:DataW H}(hd:d ∈ xs):Fits P e d:=by
 intro n hn;exact h n (by simp only[DataW.weights,ht,List.mem_cons,List.mem_append];exact .inr (.inl (weights_all hd hn)))
theorem Fits.field {P:Program}{t:TypeId}{fs:Array Field}(ht:P.underlying t=some (.struct fs)){ds:List (DataW H)}(h:Fits P t (.agg ds)){f:Nat}{fd:Field}(hf:fs[f]? =some fd){d:DataW H}(hd:ds[f]? =some d):Fits P fd.type d:=by
 intro n hn;refine h n ?_
 simp only[DataW.weights,ht];refine DataW.weights_mem_each (j:=f) (t:=fd.type) (d:=d) ?_ hd n hn
 rw[List.getElem?_map,Array.getElem?_toList,hf];rfl
theorem Fits.arg {P:Program}{ts:List TypeId}{ds:List (DataW H)}(h:(DataW.weightsEach P ts ds).all (· ≤reachBytes)=true){j:Nat}{t:TypeId}{d:DataW H}(ht:ts[j]? =some t)(hd:ds[j]? =some d):Fits P t d:=by
 intro n hn
 have:=List.all_eq_true.1 h n (DataW.weights_mem_each ht hd n hn);simpa using this
def wfA (a:Ar):Prop:=(Lit.int .i64 a.1).wf=true∧(Lit.int .i64 a.2.1).wf=true∧(Lit.int .i64 a.2.2.1).wf=true∧(Lit.int .i64 a.2.2.2).wf=true
theorem open_arcs {P:Program}{t e:TypeId}{f0 f1 f2 f3:Field}{fuel:Nat}{v:Value}{x:DataW H × List MemPlace}(ht:P.underlying t=some (.slice e))(he:P.underlying e=some (.struct #[f0,f1,f2,f3]))(hone:Go.Deep.oneCellFields P #[f0,f1,f2,f3]=true)(hce:P.cellsOf e=4)
  (h0:P.underlying f0.type=some (.int .i64)) (h1:P.underlying f1.type=some (.int .i64)) (h2:P.underlying f2.type=some (.int .i64)) (h3:P.underlying f3.type=some (.int .i64)) (hby:P.bytesOf e=32)
  (h:DataW.trod enc P w base sp held fuel t [v]=some x) (hf:Fits P t x.1):
  ∃ l:List Ar,Arcs w v l∧(∀ a ∈ l,wfA a)∧l.length*32≤140737488351232:=by
 rcases open_rows ht he hone hce h with⟨hv,hx⟩ | ⟨a,len,cap,n,V,Y,rest,hv,hm,hl,hx,hc⟩
 ·exact ⟨[],.inl ⟨hv,rfl⟩,by simp,by simp⟩
 ·have key:∀ i,i<len→∃ y:Ar,w.cell? (a.add (i*4))=some (.int .i64 y.1)∧w.cell? (a.add (i*4+1))=some (.int .i64 y.2.1)∧w.cell? (a.add (i*4+2))=some (.int .i64 y.2.2.1)∧w.cell? (a.add (i*4+3))=some (.int .i64 y.2.2.2)∧wfA y:=by
   intro i hi;obtain⟨c0,t0⟩:=hc i hi 0 f0 rfl
   obtain⟨c1,t1⟩:=hc i hi 1 f1 rfl
   obtain⟨c2,t2⟩:=hc i hi 2 f2 rfl
   obtain⟨c3,t3⟩:=hc i hi 3 f3 rfl
   obtain⟨q0,e0,_,w0⟩:=DataW.trod_int h0 t0
   obtain⟨q1,e1,_,w1⟩:=DataW.trod_int h1 t1
   obtain⟨q2,e2,_,w2⟩:=DataW.trod_int h2 t2
   obtain⟨q3,e3,_,w3⟩:=DataW.trod_int h3 t3
   simp at e0 e1 e2 e3;rw[e0]at c0;rw[e1]at c1;rw[e2]at c2;rw[e3]at c3;exact⟨(q0,q1,q2,q3),c0,c1,c2,c3,w0,w1,w2,w3⟩
  obtain⟨y,hy⟩:=Go.Deep.choose_lt key
  have hlen:((List.range len).map y).length=len:=by simp
  refine⟨(List.range len).map y,.inr ⟨a,cap,by rw[hlen];exact hv,?_⟩,?_,?_⟩
  ·intro j hj i u hu
   rw[hlen]at hj;rw[jjan y hj]at hu;obtain⟨g0,g1,g2,g3,_⟩:=hy j hj
   match i,hu with
   | 0,hu=>simp [encA]at hu;subst hu;exact g0
   | 1,hu=>simp [encA]at hu;subst hu;exact g1
   | 2,hu=>simp [encA]at hu;subst hu;exact g2
   | 3,hu=>simp [encA]at hu;subst hu;exact g3
   | i+4,hu=>simp [encA]at hu
  ·intro p hp
   simp at hp;obtain⟨i,hi,rfl⟩:=hp
   exact(hy i hi).2.2.2.2
  ·rw [hx]at hf
   have:=hf.len ht;rw[hby]at this;simpa [reachBytes] using this
end
abbrev Nd :=Int × Bool × List Ar
abbrev Rw :=Int × List Nd
def encN (s:Int × Bool × Value):List Value:=[.int .i64 s.1,.bool s.2.1,s.2.2]
def Nds (w:World)(v:Value)(l:List Nd):Prop:=
 ∃ vs:List (Int × Bool × Value),Row 3 encN w v vs∧vs.length=l.length∧∀ j,j<l.length→(el vs j).1=(el l j).1∧(el vs j).2.1=(el l j).2.1∧Arcs w (el vs j).2.2 (el l j).2.2
theorem Nds.later {w w':World}{v:Value}{l:List Nd}(h:Nds w v l){B:Nat}(hb:Below B w w')(hB:w.heap.size≤B):Nds w' v l:=by
 obtain⟨vs,h1,h2,h3⟩:=h
 exact⟨vs,Row.later h1 hb hB,h2,fun j hj=>⟨(h3 j hj).1,(h3 j hj).2.1,(h3 j hj).2.2.later hb hB⟩⟩
theorem Nds.get {w:World}{v:Value}{l:List Nd}(h:Nds w v l):∃ a cap,v= .slice a l.length cap∧∀ j,j<l.length→∃ b off va,a=some ⟨b,off,none⟩∧b<w.heap.size∧w.cell? ⟨b,off+j*3,none⟩=some (.int .i64 (el l j).1)∧w.cell? ⟨b,off+j*3+1,none⟩=some (.bool (el l j).2.1)∧w.cell? ⟨b,off+j*3+2,none⟩=some va∧Arcs w va (el l j).2.2:=by
 obtain⟨vs,h1,h2,h3⟩:=h
 by_cases hz:0<l.length
 ·obtain ⟨b,off,cap,hv,hb,hc⟩:=Row.plain h1 (fun x=>by simp[encN]) (by omega)
  refine⟨_,cap,by rw[← h2];exact hv,fun j hj=>⟨b,off,(el vs j).2.2,rfl,hb,?_,?_,hc j (by omega) 2 _ rfl,(h3 j hj).2.2⟩⟩
  ·rw [← (h3 j hj).1];exact hc j (by omega) 0 _ rfl
  ·rw [← (h3 j hj).2.1];exact hc j (by omega) 1 _ rfl
 ·obtain ⟨a,cap,hv⟩:=Row.sl h1
  exact⟨a,cap,by rw[← h2];exact hv,fun j hj=>by omega⟩
def RawV (w:World)(v:Value)(m:Rw):Prop:=∃ vs,v= .agg #[.int .i64 m.1,vs]∧Nds w vs m.2
theorem RawV.later {w w':World}{v:Value}{m:Rw}(h:RawV w v m){B:Nat}(hb:Below B w w')(hB:w.heap.size≤B):RawV w' v m:=by
 obtain⟨vs,h1,h2⟩:=h
 exact⟨vs,h1,h2.later hb hB⟩
def okR (m:Rw):Prop:=m.2.length*40≤140737488351232∧∀ j,j<m.2.length→(el m.2 j).2.2.length*32≤140737488351232
def wfR (m:Rw):Prop:=(Lit.int .i64 m.1).wf=true∧∀ s ∈ m.2,(Lit.int .i64 s.1).wf=true∧∀ a ∈ s.2.2,wfA a
section
variable {H:Type} {enc:TypeId × Value→H} {w:World} {base:Nat} {sp:Nat→Bool} {held:Bool}
theorem open_raw {fuel:Nat}{v0 v1:Value}{y0 y1:DataW H × List MemPlace}
  (h0:DataW.trod enc Tryz.prog w base sp held fuel 3 [v0]=some y0) (h1:DataW.trod enc Tryz.prog w base sp held fuel 33 [v1]=some y1) (hf:Fits Tryz.prog 33 y1.1):
  ∃ m:Rw,RawV w (.agg #[v0,v1]) m∧okR m∧wfR m:=by
 obtain⟨z,e0,_,hz⟩:=DataW.trod_int Tryz.underlying3 h0
 simp at e0;subst e0;rcases open_rows Tryz.underlying33 Tryz.underlying53 (by kernel_rfl) (by kernel_rfl) h1 with⟨hv,hx⟩ | ⟨a,len,cap,n,V,Y,rest,hv,hm,hl,hx,hc⟩
 ·refine ⟨(z,[]),⟨v1,rfl,[],.inl ⟨hv,rfl⟩,rfl,by simp⟩,⟨by simp,by simp⟩,hz,by simp⟩
 ·have key:∀ i,i<len→∃ q:Value × Nd,w.cell? (a.add (i*3))=some (.int .i64 q.2.1)∧w.cell? (a.add (i*3+1))=some (.bool q.2.2.1)∧w.cell? (a.add (i*3+2))=some q.1∧Arcs w q.1 q.2.2.2∧(Lit.int .i64 q.2.1).wf=true∧(∀ a ∈ q.2.2.2,wfA a)∧q.2.2.2.length*32≤140737488351232:=by
   intro i hi;obtain⟨c0,t0⟩:=hc i hi 0 _ rfl
   obtain⟨c1,t1⟩:=hc i hi 1 _ rfl
   obtain⟨c2,t2⟩:=hc i hi 2 _ rfl
   obtain⟨q0,e0,_,w0⟩:=DataW.trod_int Tryz.underlying3 t0
   obtain⟨q1,e1,_⟩:=DataW.trod_bool Tryz.underlying4 t1
   simp at e0 e1;rw[e0]at c0;rw[e1]at c1;have hfi:Fits Tryz.prog 51 (Y i 2).1:=by
    rw[hx]at hf;have hm:(.agg ((List.range 3).map fun f=>(Y i f).1):DataW H) ∈ (List.range len).map fun i=>(.agg ((List.range 3).map fun f=>(Y i f).1):DataW H):=List.mem_map.2 ⟨i,List.mem_range.2 hi,rfl⟩
    exact(hf.elem Tryz.underlying33 hm).field Tryz.underlying53 (f:=2) rfl rfl
   obtain⟨l,g1,g2,g3⟩:=open_arcs Tryz.underlying51 Tryz.underlying55 (by kernel_rfl) (by kernel_rfl) Tryz.underlying3 Tryz.underlying3 Tryz.underlying3 Tryz.underlying3 (by kernel_rfl) t2 hfi
   exact⟨(V i 2,q0,q1,l),c0,c1,c2,g1,w0,g2,g3⟩
  obtain⟨q,hq⟩:=Go.Deep.choose_lt key
  have hlen:((List.range len).map fun i=>(q i).2).length=len:=by simp
  have hlen2:((List.range len).map fun i=>((q i).2.1,(q i).2.2.1,(q i).1)).length=len:=by simp
  refine⟨(z,(List.range len).map fun i=>(q i).2),⟨v1,rfl,(List.range len).map fun i=>((q i).2.1,(q i).2.2.1,(q i).1),.inr ⟨a,cap,by rw[hlen2];exact hv,?_⟩,by simp,?_⟩,⟨?_,?_⟩,hz,?_⟩
  ·intro j hj i u hu
   rw[hlen2]at hj;rw[jjan _ hj]at hu;obtain⟨g0,g1,g2,_⟩:=hq j hj
   match i,hu with
   | 0,hu=>simp [encN]at hu;subst hu;exact g0
   | 1,hu=>simp [encN]at hu;subst hu;exact g1
   | 2,hu=>simp [encN]at hu;subst hu;exact g2
   | i+3,hu=>simp [encN]at hu
  ·intro j hj
   rw[hlen]at hj;rw[jjan _ hj,jjan _ hj];exact⟨rfl,rfl,(hq j hj).2.2.2.1⟩
  ·show ((List.range len).map fun i=>(q i).2).length*40≤_
   rw[hlen];rw[hx]at hf
   have:=hf.len Tryz.underlying33;have hby:Tryz.prog.bytesOf 53=40:=by kernel_rfl
   rw[hby]at this;simpa [reachBytes] using this
  ·intro j hj
   have hj':j<len:=by rw[← hlen];exact hj
   show(el ((List.range len).map fun i=>(q i).2) j).2.2.length*32≤_;rw[jjan _ hj'];exact(hq j hj').2.2.2.2.2.2
  ·intro s hs
   simp at hs;obtain⟨i,hi,rfl⟩:=hs
   exact⟨(hq i hi).2.2.2.2.1,(hq i hi).2.2.2.2.2.1⟩
end
end Go.Proofs.YtppkiejhhmahcaaGreatDoor.Wt
